/- awake: what the document fixes. -/
import Derived.Test.YtkndbldjablhoaaDoorApi
set_option maxRecDepth 100000
namespace Go.Proofs.YtkndbldjablhoaaDoor
open Go.RowKit Go.Shelf
/-- An arena whose memory lies from n0 on. -/
def HoldA (A B : Nat) (bs : List Ar.Pc) (n0 : Nat) (w : World) : Prop := Hold A B bs (fun j => n0 ≤ j ∧ j < w.heap.size) w ∧ n0 ≤ w.heap.size
theorem HoldA.left {A B : Nat} {bs bs' : List Ar.Pc} {n0 : Nat} {w w' : World} (h : HoldA A B bs n0 w) (k : Left_ A B bs' (fun j => n0 ≤ j ∧ j < w.heap.size) w w') : HoldA A B bs' n0 w' ∧ Below n0 w w' := by
  obtain ⟨L, S, pcs, a, I, e, m⟩ := k.hold
  have hs := k.trn.size
  have h2 := h.2
  exact ⟨⟨⟨L, S, pcs, a.wide (fun j e => e.elim (fun e => ⟨e.1, Nat.lt_of_lt_of_le e.2 hs⟩) (fun e => ⟨Nat.le_trans h2 e.1, e.2⟩)) (fun j e => e.2), I, e, m⟩, Nat.le_trans h2 hs⟩, k.trn.below (fun j e => e.1) h2⟩
theorem HoldA.below {A B : Nat} {bs : List Ar.Pc} {n0 : Nat} {w w' : World} (h : HoldA A B bs n0 w) (hb : Below w.heap.size w w') : HoldA A B bs n0 w' := (h.left (Left_.below h.1 hb)).1
theorem TabOk.below {n0 : Nat} {w w' : World} (h : TabOk w) (hn : 0 < n0) (hb : Below n0 w w') : TabOk w' :=
  fun j hj => (World.cell?_of_block (a := ⟨0, j, none⟩) (hb.block _ hn)).trans (h j hj)
theorem aw_alloc (A n0 : Nat) (w : World) (h : HoldA A 1024 [] n0 w) (hT : TabOk w) (hn : 0 < n0) :
    Calls Tryd.prog 13 #[.pointer (some ⟨A, 0, none⟩), .int .i64 9] w fun e w' => e = .returned (.tuple #[.int .i64 1, .int .i64 0]) ∧ (∃ b, HoldA A 1024 [b] n0 w' ∧ IsNew b 1 9) ∧ Below n0 w w' := by
  refine (alloc_api A 1024 [] _ 9 w h.1 hT (fun e => by omega)).mono fun e w' hk => ?_
  rcases hk with ⟨h1, _⟩ | ⟨_, h1, _⟩ | ⟨_, _, i, B1, B2, b, he, e1, hL, hz, hN, g1, _, g3⟩
  · exact absurd h1 (by decide)
  · exact absurd h1 (by decide)
  · obtain ⟨rfl, rfl⟩ := List.append_eq_nil_iff.1 e1.symm
    have hi : i = 1 := by
      apply Classical.byContradiction
      intro hne
      obtain ⟨q, hq, _⟩ := g3 1 (Nat.le_refl _) (by omega)
      cases hq
    subst hi
    have hz9 : b.size = 9 := by omega
    rw [hz9] at hN
    obtain ⟨k1, k2⟩ := h.left hL
    exact ⟨he, ⟨b, k1, hN⟩, k2⟩
theorem take9 {l : List UInt8} (h : l.take 9 = Ar.zeros 9) : 9 ≤ l.length ∧ (Ar.put l 1 [97, 98, 99]).take 5 = [0, 97, 98, 99, 0] := by
  have hl : 9 ≤ l.length := by have := congrArg List.length h; simp [Ar.zeros] at this; omega
  refine ⟨hl, ?_⟩
  rw [← List.take_append_drop 9 l, h]
  rfl
theorem aw_write (A n0 : Nat) (b : Ar.Pc) (v : Value) (w : World) (h : HoldA A 1024 [b] n0 w) (hN : IsNew b 1 9) (hv : RdB v [97, 98, 99] w) :
    Calls Tryd.prog 19 #[.pointer (some ⟨A, 0, none⟩), .int .i64 1, .int .i64 1, v] w fun e w' => e = .returned (.int .i64 0) ∧ (∃ q, HoldA A 1024 [q] n0 w' ∧ q.owner = 1 ∧ q.size = 9 ∧ q.data.take 5 = [0, 97, 98, 99, 0]) ∧ Below n0 w w' := by
  refine (write_api A 1024 [b] _ 1 1 v [97, 98, 99] w h.1 hv (by decide) (by decide) (by decide)).mono fun e w' hk => ?_
  rcases hk with ⟨h1, _⟩ | ⟨B1, q, B2, e1, ho, h1⟩
  · exact absurd (show (b.owner : Int) = 1 by rw [hN.own]; rfl) (h1 b (List.mem_singleton.2 rfl))
  · obtain ⟨rfl, rfl, rfl⟩ : B1 = [] ∧ q = b ∧ B2 = [] := by
      cases B1 with
      | nil => simp at e1; exact ⟨rfl, e1.1.symm, e1.2⟩
      | cons x r => simp at e1
    rcases h1 with ⟨h1, _⟩ | ⟨_, he, hL⟩
    · exact absurd (show Within q.size 1 3 by rw [hN.size]; exact ⟨by decide, by decide, by decide, by decide⟩) h1
    · obtain ⟨k1, k2⟩ := h.left hL
      have hz := hN.zero
      exact ⟨he, ⟨_, k1, hN.own, hN.size, (take9 hz).2⟩, k2⟩
theorem aw_read (A n0 : Nat) (q : Ar.Pc) (w : World) (h : HoldA A 1024 [q] n0 w) (h1 : q.owner = 1) (h2 : q.size = 9) (h3 : q.data.take 5 = [0, 97, 98, 99, 0]) :
    Calls Tryd.prog 17 #[.pointer (some ⟨A, 0, none⟩), .int .i64 1, .int .i64 0, .int .i64 5] w fun e w' => (∃ v, e = .returned (.tuple #[v, .int .i64 0]) ∧ w'.ownsRow w.heap.size 5 1 v 5 (([0, 97, 98, 99, 0] : List UInt8).map encB)) ∧ Below w.heap.size w w' := by
  refine (read_api A 1024 [q] _ 1 0 5 w h.1 (by decide) (by decide) (by decide) (by decide)).mono fun e w' hk => ?_
  obtain ⟨hb, hk⟩ := hk
  refine ⟨?_, hb⟩
  rcases hk with ⟨g1, _⟩ | ⟨q', hq, ho, hk⟩
  · exact absurd (show (q.owner : Int) = 1 by rw [h1]; rfl) (g1 q (List.mem_singleton.2 rfl))
  · rw [List.mem_singleton] at hq
    subst hq
    rcases hk with ⟨g1, _⟩ | ⟨_, v, l, hl, he, hr⟩
    · exact absurd (show Within q'.size 0 5 by rw [h2]; exact ⟨by decide, by decide, by decide, by decide⟩) g1
    · have : l = [0, 97, 98, 99, 0] := by rw [hl]; exact h3
      subst this
      exact ⟨v, he, hr⟩
theorem aw_size (A n0 : Nat) (q : Ar.Pc) (w : World) (h : HoldA A 1024 [q] n0 w) (h1 : q.owner = 1) (h2 : q.size = 9) :
    Calls Tryd.prog 28 #[.pointer (some ⟨A, 0, none⟩), .int .i64 1] w fun e w' => e = .returned (.tuple #[.int .i64 9, .bool true]) ∧ Below w.heap.size w w' := by
  refine (size_api A 1024 [q] _ 1 w h.1).mono fun e w' hk => ?_
  obtain ⟨hb, hk⟩ := hk
  refine ⟨?_, hb⟩
  rcases hk with ⟨g1, _⟩ | ⟨q', hq, ho, he⟩
  · exact absurd (show (q.owner : Int) = 1 by rw [h1]; rfl) (g1 q (List.mem_singleton.2 rfl))
  · rw [List.mem_singleton] at hq
    subst hq
    rw [he, h2]
    rfl
theorem sum32 {S : Ar.St} {pcs : List Ar.Pc} {q : Ar.Pc} (I : Ar.Inv S pcs) (e : Ar.blocks pcs = [q]) (h2 : q.size = 9) : Ar.sumT [q] = 32 := by
  have hq : q ∈ Ar.blocks pcs := by rw [e]; exact List.mem_singleton.2 rfl
  obtain ⟨q1, q2⟩ := Ar.mem_blocks.1 hq
  have h3 := ((I.ok q q1).bl q2).2
  rw [h2] at h3
  have h4 : Ar.sumT [q] = q.takes := by simp [Ar.sumT]
  rw [h4, ← h3]
  decide
theorem HoldA.sum {A n0 : Nat} {q : Ar.Pc} {w : World} (h : HoldA A 1024 [q] n0 w) (h2 : q.size = 9) : Ar.sumT [q] = 32 := by
  obtain ⟨⟨L, S, pcs, a, I, e, m⟩, _⟩ := h
  exact sum32 I e h2
theorem aw_used (A n0 : Nat) (q : Ar.Pc) (w : World) (h : HoldA A 1024 [q] n0 w) (h2 : q.size = 9) : Calls Tryd.prog 27 #[.pointer (some ⟨A, 0, none⟩)] w fun e w' => e = .returned (.int .i64 32) ∧ w = w' := by
  have := used_api A 1024 [q] _ w h.1
  rw [h.sum h2] at this
  exact this
theorem aw_left (A n0 : Nat) (q : Ar.Pc) (w : World) (h : HoldA A 1024 [q] n0 w) (h2 : q.size = 9) : Calls Tryd.prog 25 #[.pointer (some ⟨A, 0, none⟩)] w fun e w' => e = .returned (.int .i64 992) ∧ w = w' := by
  have := left_api A 1024 [q] _ w h.1
  rw [h.sum h2] at this
  exact this
theorem aw_compact (A n0 : Nat) (q : Ar.Pc) (w : World) (h : HoldA A 1024 [q] n0 w) (h2 : q.size = 9) : Calls Tryd.prog 21 #[.pointer (some ⟨A, 0, none⟩)] w fun e w' => e = .returned (.int .i64 992) ∧ Below n0 w w' := by
  have := compact_api A 1024 [q] _ w h.1
  rw [h.sum h2] at this
  exact this.mono fun e w' ⟨he, hL⟩ => ⟨he, (h.left hL).2⟩
theorem aw_new (w : World) : Calls Tryd.prog 11 #[.int .i64 1024] w fun e w' => ∃ A, e = .returned (.tuple #[.pointer (some ⟨A, 0, none⟩), .int .i64 0]) ∧ HoldA A 1024 [] w.heap.size w' ∧ Below w.heap.size w w' :=
  (new_api 1024 w (by decide) (by decide)).mono fun e w' ⟨A, he, hH, hb⟩ => ⟨A, he, ⟨hH, hb.size⟩, hb⟩
end Go.Proofs.YtkndbldjablhoaaDoor
