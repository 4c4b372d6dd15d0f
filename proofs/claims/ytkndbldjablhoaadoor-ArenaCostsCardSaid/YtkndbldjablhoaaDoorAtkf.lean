/- A free piece is taken out of its list. -/
import Derived.Test.YtkndbldjablhoaaDoorAfree
set_option maxRecDepth 100000
namespace Go.Proofs.YtkndbldjablhoaaDoor
open Go.RowKit Go.Shelf
theorem below_of_alloc {W W1 : World} {o : Obj} (h : Below (W.alloc o).heap.size (W.alloc o) W1) : Below W.heap.size W W1 := ((Below.refl _ W).alloc (Nat.le_refl _) o).trans (h.mono (by simp))
theorem ArE.out {A : Nat} {L : Loc} {S : Ar.St} {f g : Nat → Prop} {w w' : World} (h : ArE A L S f w) (ht : Trn g w w') (hA : ¬ g A) (hM : ¬ g L.M) (hP : ¬ g L.P) (hU : ¬ g L.U) (hN : ¬ g L.N) : ArE A L S f w' :=
  ⟨h.box.trn ht hA, h.mem.trn ht hM, h.pl.trn ht hP, h.us.trn ht hU, h.nd.trn ht hN, h.cap, h.cm, h.fA, h.fM, h.fP, h.fU, h.fN, fun k e => Nat.lt_of_lt_of_le (h.fb k e) ht.size⟩
/-- A block of the call's own is written. -/
theorem Ars.out {A : Nat} {L : Loc} {S S0 : Ar.St} {f : Nat → Prop} {w w1 w2 : World} (h : Ars A L S f w w1) (h0 : ArE A L S0 f w) {B : Nat} (ht : Trn (fun k => k = B) w1 w2) (hB : w.heap.size ≤ B) (hB2 : B < w1.heap.size) : Ars A L S f w w2 :=
  h.same (ht.to (.inr ⟨hB, hB2⟩)) (h.ar.out ht (by have := h0.box.lt; omega) (by have := h0.mem.lt; omega) (by have := h0.pl.lt; omega) (by have := h0.us.lt; omega) (by have := h0.nd.lt; omega))
theorem set4 {w3 : World} {B : Nat} {a b c d : Value} {t : TypeId} (h : Blk w3 B [a, b, c, d] t) (a' b' c' d' : Value) :
    Blk ((((w3.setCell ⟨B, 0, none⟩ a').setCell ⟨B, 1, none⟩ b').setCell ⟨B, 2, none⟩ c').setCell ⟨B, 3, none⟩ d') B [a', b', c', d'] t ∧ Trn (fun k => k = B) w3 ((((w3.setCell ⟨B, 0, none⟩ a').setCell ⟨B, 1, none⟩ b').setCell ⟨B, 2, none⟩ c').setCell ⟨B, 3, none⟩ d') := by
  have h1 := h.set 0 a'
  have h2 := h1.set 1 b'
  have h3 := h2.set 2 c'
  have h4 := h3.set 3 d'
  exact ⟨h4, (((Trn.set1 h 0 a').trans (Trn.set h1 (.inl rfl) 1 b')).trans (Trn.set h2 (.inl rfl) 2 c')).trans (Trn.set h3 (.inl rfl) 3 d')⟩
theorem Blk.drw {W : World} {B : Nat} {l : List Value} {t : TypeId} (h : Blk W B l t) : Blk W.drew B l t := h
theorem box4 (w w3 : World) (a b c d : Value) (t : TypeId) (h : Below (w.alloc (.cells #[a, b, c, d] t)).heap.size (w.alloc (.cells #[a, b, c, d] t)) w3) :
    w.heap.size < w3.heap.size ∧ w3.cell? ⟨w.heap.size, 0, none⟩ = some a ∧ w3.cell? ⟨w.heap.size, 1, none⟩ = some b ∧ w3.cell? ⟨w.heap.size, 2, none⟩ = some c ∧ w3.cell? ⟨w.heap.size, 3, none⟩ = some d ∧ (∀ i, w3.frozen? ⟨w.heap.size, i, none⟩ = false) ∧ Hid (Blk w3 w.heap.size [a, b, c, d] t) := by
  have hb : Blk w3 w.heap.size [a, b, c, d] t := (h.block w.heap.size (by simp)).trans (Blk.new w [a, b, c, d] t)
  exact ⟨by have := h.size; simp at this; omega, hb.cell rfl, hb.cell rfl, hb.cell rfl, hb.cell rfl, hb.frozen, Lib.hid hb⟩
namespace Ar
/-- A piece is taken out of the lists, if it is free. -/
def takeFree (S : St) (at_ : Nat) : St := if at_ = fin S then S else if (headAt S.mem at_).free then { S with nd := dropN S.nd (headAt S.mem at_).owner S.spare, spare := (headAt S.mem at_).owner } else S
def tookFree (S : St) (at_ : Nat) : Head × Bool := if at_ = fin S then (⟨false, 0, 0, 0⟩, false) else (headAt S.mem at_, (headAt S.mem at_).free)
end Ar
set_option maxHeartbeats 4000000 in
theorem takeFree_any (A : Nat) (L : Loc) (S : Ar.St) (f : Nat → Prop) (z : Int) (a : Nat) (w : World) (hz : z = (a : Int)) (h : ArE A L S f w) (hm : S.mem.length ≤ 1048576) (h2 : a ≠ Ar.fin S → a + 8 ≤ S.mem.length)
    (hc : a ≠ Ar.fin S → (Ar.headAt S.mem a).free = true → (Ar.headAt S.mem a).owner < S.nd.length ∧ (Ar.nodeAt S.nd (Ar.headAt S.mem a).owner).n < S.nd.length ∧ (Ar.nodeAt S.nd (Ar.headAt S.mem a).owner).l < S.nd.length) (hc4 : S.nd.length ≤ 200000) :
    Calls Tryd.prog 58 #[.pointer (some ⟨A, 0, none⟩), .int .i64 z] w fun e w' => (e = .returned (.tuple #[.agg #[.bool (Ar.tookFree S a).1.free, .int .i64 ((Ar.tookFree S a).1.owner : Int), .int .i64 ((Ar.tookFree S a).1.size : Int), .int .i64 ((Ar.tookFree S a).1.ahead : Int)], .bool (Ar.tookFree S a).2])) ∧ Ars A L (Ar.takeFree S a) f w w' := by
  subst hz
  unfold Ar.takeFree Ar.tookFree
  have hAl := h.box.lt
  by_cases he : a = Ar.fin S
  · rw [if_pos he, if_pos he]
    have hE : Hid (Ar.fin S = a) := Lib.hid he.symm
    clear he hc h2
    have hee : ((a : Int) == (a : Int)) = true := by simp
    go_enter Tryd.func58, Tryd.ntmps58
    go_wp2_with (first
      | (go_at_call 32; (with_reducible refine (end_at A L S _ a _ (h.below ((Below.refl _ w).alloc (Nat.le_refl _) _)) hm hE.out).mono ?_); rintro e w' ⟨rfl, rfl⟩))
    exact bodyPost_ret (v := .tuple #[.agg #[.bool false, .int .i64 0, .int .i64 0, .int .i64 0], .bool false]) (by simp [results, Tryd.results58, go_sem]) rfl ⟨rfl, (Ars.start h).below ((Below.refl _ _).alloc (Nat.le_refl _) _)⟩
  · rw [if_neg he, if_neg he]
    obtain ⟨F, hF⟩ : ∃ F, Ar.fin S = F := ⟨_, rfl⟩
    have hne : ((a : Int) == (F : Int)) = false := by rw [beq_eq_false_iff_ne]; omega
    have ha8 := h2 he
    have hc := hc he
    obtain ⟨p, hp⟩ : ∃ p, Ar.headAt S.mem a = p := ⟨_, rfl⟩
    rw [hp] at hc ⊢
    have HPp := Lib.hid hp
    clear hp h2 he
    have hE := Lib.hid hF
    clear hF
    have HA := Lib.hid h
    clear h
    cases hfr : p.free
    · simp only [Bool.false_eq_true, if_false]
      go_enter Tryd.func58, Tryd.ntmps58
      go_wp2_with (first
        | (go_at_call 32; (with_reducible refine (end_at A L S _ F _ (HA.out.below ((Below.refl _ w).alloc (Nat.le_refl _) _)) hm hE.out).mono ?_); rintro e w' ⟨rfl, rfl⟩)
        | (go_at_call 38; (with_reducible refine (head_agg A L S _ _ a p _ rfl (HA.out.below ((Below.refl _ w).alloc (Nat.le_refl _) _)) hm ha8 HPp.out).mono ?_); rintro e w3 ⟨rfl, hb3⟩; obtain ⟨hz, hx0, hx1, hx2, hx3, hff, hB4⟩ := box4 w w3 _ _ _ _ _ hb3; have H3 := Lib.hid ((Ars.start HA.out).below (below_of_alloc hb3)); clear hb3))
      rw [hfr] at *
      have hs4 := set4 hB4.out (.bool false) (.int .i64 (p.owner : Int)) (.int .i64 (p.size : Int)) (.int .i64 (p.ahead : Int))
      have HR := Lib.hid (((H3.out.out HA.out hs4.2 (Nat.le_refl _) hz).below ((Below.refl _ _).alloc (Nat.le_refl _) (.cells #[.bool false, .int .i64 (p.owner : Int), .int .i64 (p.size : Int), .int .i64 (p.ahead : Int)] 76))).drw)
      have HS := Lib.hid ((hs4.1.alloc (.cells #[.bool false, .int .i64 (p.owner : Int), .int .i64 (p.size : Int), .int .i64 (p.ahead : Int)] 76)).drw)
      clear hs4
      go_region
      go_wp2
      generalize hW : World.drew _ = W4 at HR ⊢
      have hB5 := hW ▸ HS.out
      have y0 := hB5.cell (i := 0) rfl
      have y1 := hB5.cell (i := 1) rfl
      have y2 := hB5.cell (i := 2) rfl
      have y3 := hB5.cell (i := 3) rfl
      exact bodyPost_ret (v := .tuple #[.agg #[.bool false, .int .i64 (p.owner : Int), .int .i64 (p.size : Int), .int .i64 (p.ahead : Int)], .bool false]) (by simp [results, Tryd.results58, go_sem, y0, y1, y2, y3]) rfl ⟨rfl, HR.out⟩
    · simp only [if_true]
      obtain ⟨c1, c2, c3⟩ := hc hfr
      go_enter Tryd.func58, Tryd.ntmps58
      go_wp2_with (first
        | (go_at_call 32; (with_reducible refine (end_at A L S _ F _ (HA.out.below ((Below.refl _ w).alloc (Nat.le_refl _) _)) hm hE.out).mono ?_); rintro e w' ⟨rfl, rfl⟩)
        | (go_at_call 38; (with_reducible refine (head_agg A L S _ _ a p _ rfl (HA.out.below ((Below.refl _ w).alloc (Nat.le_refl _) _)) hm ha8 HPp.out).mono ?_); rintro e w3 ⟨rfl, hb3⟩; obtain ⟨hz, hx0, hx1, hx2, hx3, hff, hB4⟩ := box4 w w3 _ _ _ _ _ hb3; have H3 := Lib.hid ((Ars.start HA.out).below (below_of_alloc hb3)); clear hb3 hx0 hx1 hx2 hx3 hff))
      rw [hfr] at *
      have HV := Lib.hid ((H3.out.below ((Below.refl _ _).alloc (Nat.le_refl _) (.cells #[.bool true, .int .i64 (p.owner : Int), .int .i64 (p.size : Int), .int .i64 (p.ahead : Int)] 76))).drw)
      have HB6 := Lib.hid ((Blk.new w3 [.bool true, .int .i64 (p.owner : Int), .int .i64 (p.size : Int), .int .i64 (p.ahead : Int)] 76).drw)
      have HB4 := Lib.hid ((hB4.out.alloc (.cells #[.bool true, .int .i64 (p.owner : Int), .int .i64 (p.size : Int), .int .i64 (p.ahead : Int)] 76)).drw)
      clear hB4
      go_region_with (go_at_call 66; refine (chDrop_any A 5 73 (arBox L S) L.N L.cap L.rest S.nd S.spare p.owner _ (HV.out.ar.che hc4) c1 c2 c3).mono ?_; rintro e w5 ⟨rfl, ht, k⟩; have HP := Lib.hid (And.intro ht k); clear ht k)
      have hAl := HA.out.box.lt
      have hNl := HA.out.nd.lt
      have HV5 : Hid (Ars A L { S with nd := Ar.dropN S.nd p.owner S.spare, spare := p.owner } f w w5) := Lib.hid (HV.out.unche HP.out.2 (by simp only [arBox, Ar.dropN_len]; rfl) HP.out.1 (.inl rfl))
      have b6 := HB6.out.trn HP.out.1 (fun e => e.elim (fun e => by omega) (fun e => by omega))
      have b4 := HB4.out.trn HP.out.1 (fun e => e.elim (fun e => by omega) (fun e => by omega))
      have hz5 : w.heap.size < w5.heap.size := Nat.lt_of_lt_of_le hz (by have := HP.out.1.size; simp at this; omega)
      clear HP HV HB6 HB4 H3
      have x0 := b6.cell (i := 0) rfl
      have x1 := b6.cell (i := 1) rfl
      have x2 := b6.cell (i := 2) rfl
      have x3 := b6.cell (i := 3) rfl
      have z0 := b4.cell (i := 0) rfl
      have z1 := b4.cell (i := 1) rfl
      have z2 := b4.cell (i := 2) rfl
      have z3 := b4.cell (i := 3) rfl
      have zf := fun i => b4.frozen i
      have hs4 := set4 b4 (.bool true) (.int .i64 (p.owner : Int)) (.int .i64 (p.size : Int)) (.int .i64 (p.ahead : Int))
      have HR := Lib.hid ((HV5.out.out HA.out hs4.2 (Nat.le_refl _) hz5).drw)
      have HS := Lib.hid (hs4.1.drw)
      have hne1 : w3.heap.size ≠ w.heap.size := by omega
      clear hs4 b6 b4
      go_wp2
      go_region
      go_wp2
      generalize hW : World.drew _ = W4 at HR ⊢
      have hB5 := hW ▸ HS.out
      have y0 := hB5.cell (i := 0) rfl
      have y1 := hB5.cell (i := 1) rfl
      have y2 := hB5.cell (i := 2) rfl
      have y3 := hB5.cell (i := 3) rfl
      exact bodyPost_ret (v := .tuple #[.agg #[.bool true, .int .i64 (p.owner : Int), .int .i64 (p.size : Int), .int .i64 (p.ahead : Int)], .bool true]) (by simp [results, Tryd.results58, go_sem, y0, y1, y2, y3]) rfl ⟨rfl, HR.out⟩
end Go.Proofs.YtkndbldjablhoaaDoor
