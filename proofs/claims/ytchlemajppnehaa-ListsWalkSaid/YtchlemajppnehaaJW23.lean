/- 4 texts put together: Wv, Wn, Wch, Drunc. -/
import Derived.Test.YtchlemajppnehaaJW20
import Derived.Test.YtchlemajppnehaaJW22
/- A Due that is walked, or parted from its walk: the view of a walk during which it may be changed. -/
set_option maxRecDepth 100000
namespace Go.Proofs.Ytchlemajppnehaa
open Go Go.RowKit Go.Shelf Go.Maps
attribute [local go_sem] Oper.semAt_some
/-- The boxes of a walk that was parted. -/
structure PBox (xb yb l : Nat) (vb : Option Nat) (R : List (Int × Int)) (s : Nat → Prop) (W : World) : Prop where
  ex : ∃ lb v y, Blk W xb [nfC lb] tWb ∧ s xb ∧ Blk W lb [v] tLs ∧ s lb ∧ RK encQ y v R W ∧ ∀ k, y k → (∃ cs, Blk W k cs tTm) ∧ s k ∧ vb ≠ some k
  v : ∀ k, vb = some k → (∃ a b, Blk W k [.int .i64 a, .int .i64 b] tTm) ∧ s k
  y : Blk W yb [.func (.yield l) #[] #[]] tYd ∧ s yb
abbrev Ws := (Nat → Prop) × Nat
def UW (X : Nat) (most : Int) (xb yb l : Nat) (vb : Option Nat) (R : List (Int × Int)) (s : Ws) (W : World) : Prop := (∃ E, UDx X E most s.2 xb yb l vb R s.1 W) ∨ (∃ E, DV X E s.2 s.1 W ∧ PBox xb yb l vb R s.1 W)
section
variable {X : Nat} {most : Int} {xb yb l m : Nat} {vb : Option Nat} {R : List (Int × Int)} {s : Ws} {f g : Nat → Prop} {w w' : World}
theorem PBox.kept (h : PBox xb yb l vb R f w) (hk : ∀ k cs t, t ∈ farD → Blk w k cs t → f k → w'.heap[k]? = w.heap[k]?) (hs : ∀ k, f k → g k) : PBox xb yb l vb R g w' := by
  obtain ⟨lb, v, y, h1, h2, h3, h4, h5, h6⟩ := h.ex
  refine ⟨⟨lb, v, y, h1.kept (hk _ _ _ (by decide) h1 h2), hs _ h2, h3.kept (hk _ _ _ (by decide) h3 h4), hs _ h4, h5.same fun b hb => ?_, fun k e => ?_⟩, fun k e => ?_, h.y.1.kept (hk _ _ _ (by decide) h.y.1 h.y.2), hs _ h.y.2⟩
  · obtain ⟨⟨cs, hc⟩, hb2, _⟩ := h6 b hb
    exact hk _ _ _ (by decide) hc hb2
  · obtain ⟨⟨cs, hc⟩, hb2, hv⟩ := h6 k e
    exact ⟨⟨cs, hc.kept (hk _ _ _ (by decide) hc hb2)⟩, hs _ hb2, hv⟩
  · obtain ⟨⟨a, b, hv⟩, fv⟩ := h.v k e
    exact ⟨⟨a, b, hv.kept (hk _ _ _ (by decide) hv fv)⟩, hs _ fv⟩
theorem UW.fb (h : UW X most xb yb l vb R s w) : ∀ k, s.1 k → k < w.heap.size := by
  rcases h with ⟨E, h⟩ | ⟨E, h, _⟩
  · exact h.ud.fb
  · exact h.fb
theorem UW.below (h : UW X most xb yb l vb R s w) (hb : Below w.heap.size w w') : UW X most xb yb l vb R (grow s.1 w w', s.2) w' := by
  rcases h with ⟨E, h⟩ | ⟨E, h, p⟩
  · exact .inl ⟨E, h.below hb⟩
  · exact .inr ⟨E, (h.below hb).wide (fun k e => .inl e) (fun k e => e.elim (fun e => Nat.lt_of_lt_of_le (h.fb k e) hb.size) (fun e => e.2)), p.kept (fun k cs t _ hB _ => hb.block k hB.lt) fun k e => .inl e⟩
theorem UW.away (h : UW X most xb yb l vb R s w) (hk : ∀ k, s.1 k → w'.heap[k]? = w.heap[k]?) (hs : w.heap.size ≤ w'.heap.size) : UW X most xb yb l vb R s w' := by
  rcases h with ⟨E, h⟩ | ⟨E, h, p⟩
  · exact .inl ⟨E, h.away hk hs⟩
  · exact .inr ⟨E, h.away hk hs, p.kept (fun k cs t _ hB e => hk k e) fun k e => e⟩
theorem UW.book : BookOk (UW X most xb yb l vb R) := by
  intro s W k o o' h hl hk
  rcases h with ⟨E, h⟩ | ⟨E, h, p⟩
  · exact .inl ⟨E, UDx.book _ _ _ _ _ h hl hk⟩
  · exact .inr ⟨E, DV.book _ _ _ _ _ h hl hk, p.kept (fun k cs t _ hB e => blk_book hB hl hk o') fun k e => e⟩
/-- The one in hand is put into a new box. -/
theorem UW.boxed (h : UW X most xb yb l vb R s w) (x : Int × Int) : UW X most xb yb l (some w.heap.size) R (grow s.1 w (w.alloc (.cells #[.int .i64 x.1, .int .i64 x.2] tTm)), s.2) (w.alloc (.cells #[.int .i64 x.1, .int .i64 x.2] tTm)) := by
  have hb : Below w.heap.size w (w.alloc (.cells #[.int .i64 x.1, .int .i64 x.2] tTm)) := (Below.refl _ _).alloc (Nat.le_refl _) _
  have nb := Blk.new w [.int .i64 x.1, .int .i64 x.2] tTm
  have hfb := h.fb
  rcases h.below hb with ⟨E, h⟩ | ⟨E, h, p⟩
  · exact .inl ⟨E, h.ud, fun k e => by cases e; exact ⟨⟨_, _, nb⟩, .inr ⟨Nat.le_refl _, nb.lt⟩⟩, h.y⟩
  · rcases ‹UW X most xb yb l vb R s w› with ⟨E0, h0⟩ | ⟨E0, h0, p0⟩
    · exact .inl ⟨E0, (h0.below hb).ud, fun k e => by cases e; exact ⟨⟨_, _, nb⟩, .inr ⟨Nat.le_refl _, nb.lt⟩⟩, (h0.below hb).y⟩
    · obtain ⟨lb, v, y, h1, h2, h3, h4, h5, h6⟩ := p0.ex
      refine .inr ⟨E, h, ⟨lb, v, y, h1.alloc _, .inl h2, h3.alloc _, .inl h4, h5.below hb, fun k e => ?_⟩, fun k e => by cases e; exact ⟨⟨_, _, nb⟩, .inr ⟨Nat.le_refl _, nb.lt⟩⟩, p.y⟩
      obtain ⟨⟨cs, hc⟩, hs, _⟩ := h6 k e
      exact ⟨⟨cs, hc.alloc _⟩, .inl hs, fun e2 => by have := hfb k hs; have e2 : w.heap.size = k := Option.some.inj e2; omega⟩
/-- A store into the box of the one in hand. -/
theorem UW.store {k : Nat} (h : UW X most xb yb l (some k) R s w) (x : Int × Int) :
    UW X most xb yb l (some k) R (grow s.1 w ((w.setCell ⟨k, 0, none⟩ (.int .i64 x.1)).setCell ⟨k, 1, none⟩ (.int .i64 x.2)), s.2) ((w.setCell ⟨k, 0, none⟩ (.int .i64 x.1)).setCell ⟨k, 1, none⟩ (.int .i64 x.2)) ∧ Trn s.1 w ((w.setCell ⟨k, 0, none⟩ (.int .i64 x.1)).setCell ⟨k, 1, none⟩ (.int .i64 x.2)) := by
  have hv : (∃ a b, Blk w k [.int .i64 a, .int .i64 b] tTm) ∧ s.1 k := by
    rcases h with ⟨E, h⟩ | ⟨E, h, p⟩
    · exact h.v k rfl
    · exact p.v k rfl
  obtain ⟨⟨a, b, hB⟩, hs⟩ := hv
  have B1 := hB.set 0 (.int .i64 x.1)
  have B2 : Blk ((w.setCell ⟨k, 0, none⟩ (.int .i64 x.1)).setCell ⟨k, 1, none⟩ (.int .i64 x.2)) k [.int .i64 x.1, .int .i64 x.2] tTm := B1.set 1 (.int .i64 x.2)
  have t1 : Trn s.1 w ((w.setCell ⟨k, 0, none⟩ (.int .i64 x.1)).setCell ⟨k, 1, none⟩ (.int .i64 x.2)) := (Trn.set hB hs 0 _).trans (Trn.set (f := grow s.1 w _) B1 (.inl hs) 1 _)
  have ho := fun b (hb : b ≠ k) => (Below.heap_setCell (w.setCell ⟨k, 0, none⟩ (.int .i64 x.1)) ⟨k, 1, none⟩ (.int .i64 x.2) b hb).trans (Below.heap_setCell w ⟨k, 0, none⟩ (.int .i64 x.1) b hb)
  have fo : ∀ T, tTm ∈ T → FarOnly T w ((w.setCell ⟨k, 0, none⟩ (.int .i64 x.1)).setCell ⟨k, 1, none⟩ (.int .i64 x.2)) := fun T hT j _ hn => ho j fun e => by
    subst e
    exact hn _ _ hT hB
  refine ⟨?_, t1⟩
  rcases h with ⟨E, h⟩ | ⟨E, h, p⟩
  · refine .inl ⟨E, (h.ud.fix.elim fun S h => h.elim fun L h => h.elim fun dv h => h.elim fun o h => ((h.far (fo _ (by decide)) t1.size).ud)).wide (fun j e => .inl e) (fun j e => e.elim (fun e => Nat.lt_of_lt_of_le (h.ud.fb j e) t1.size) (fun e => e.2)), fun j e => by cases e; exact ⟨⟨_, _, B2⟩, .inl hs⟩, h.y.1.kept (ho _ (h.y.1.ne hB (by decide))), .inl h.y.2⟩
  · obtain ⟨lb, v, y, h1, h2, h3, h4, h5, h6⟩ := p.ex
    refine .inr ⟨E, (h.far (fo _ (by decide)) t1.size).wide (fun j e => .inl e) (fun j e => e.elim (fun e => Nat.lt_of_lt_of_le (h.fb j e) t1.size) (fun e => e.2)), ⟨lb, v, y, h1.kept (ho _ (h1.ne hB (by decide))), .inl h2, h3.kept (ho _ (h3.ne hB (by decide))), .inl h4, h5.same fun j e => ?_, fun j e => ?_⟩, fun j e => by cases e; exact ⟨⟨_, _, B2⟩, .inl hs⟩, p.y.1.kept (ho _ (p.y.1.ne hB (by decide))), .inl p.y.2⟩
    · exact ho j fun e2 => (h6 j e).2.2 (by rw [e2])
    · obtain ⟨⟨cs, hc⟩, hs2, hn⟩ := h6 j e
      exact ⟨⟨cs, hc.kept (ho j fun e2 => hn (by rw [e2]))⟩, .inl hs2, hn⟩
end
end Go.Proofs.Ytchlemajppnehaa

/- A walk during which the Due may be changed: its steps and its end. -/
set_option maxRecDepth 100000
namespace Go.Proofs.Ytchlemajppnehaa
open Go Go.RowKit Go.Shelf Go.Maps
attribute [local go_sem] Oper.semAt_some
section
variable {X : Nat} {most : Int} {xb yb l m : Nat} {vb : Option Nat} {R : List (Int × Int)} {s : Ws} {f g : Nat → Prop} {w w' : World}
/-- What next tells. -/
def NextW (X : Nat) (most : Int) (xb yb l : Nat) (vb : Option Nat) (R : List (Int × Int)) (s : Ws) (w : World) (e : Ending) (w' : World) : Prop :=
  ∃ x ok R', e = .returned (.tuple #[.agg #[.int .i64 x.1, .int .i64 x.2], .bool ok]) ∧ Trn s.1 w w' ∧ UW X most xb yb l vb R' (grow s.1 w w', s.2) w' ∧ ((ok = true ∧ R = x :: R') ∨ (ok = false ∧ R = [] ∧ R' = []))
theorem DV.moved {E : List (Int × Int)} {N : Nat} (h : DV X E N f w) (fo : FarOnly farD w w') (hs : w.heap.size ≤ w'.heap.size) : DV X E N (grow f w w') w' :=
  (h.far fo hs).wide (fun _ e => .inl e) fun k e => e.elim (fun e => Nat.lt_of_lt_of_le (h.fb k e) hs) (fun e => e.2)
theorem uw_next (h : UW X most xb yb l vb R s w) (hN : s.2 < 80000) :
    (∃ B fb db, w.cell? ⟨xb, 0, none⟩ = some (nfD B fb db) ∧ Calls Try.prog 75 #[.pointer (some ⟨B, 0, none⟩), .pointer (some ⟨fb, 0, none⟩), .pointer (some ⟨db, 0, none⟩)] w (NextW X most xb yb l vb R s w)) ∨
    (∃ lb, w.cell? ⟨xb, 0, none⟩ = some (nfC lb) ∧ Calls Try.prog 84 #[.pointer (some ⟨lb, 0, none⟩)] w (NextW X most xb yb l vb R s w)) := by
  rcases h with ⟨E, h⟩ | ⟨E, h, p⟩
  · refine .inl ?_
    cases R with
    | nil =>
      obtain ⟨B, fb, db, h1, h2⟩ := ud_nil h.ud
      refine ⟨B, fb, db, h1, h2.mono ?_⟩
      rintro e w' ⟨rfl, t, h3, h4⟩
      exact ⟨(0, 0), false, [], rfl, t, .inl ⟨E, h.step h3 h4⟩, .inr ⟨rfl, rfl, rfl⟩⟩
    | cons x R =>
      obtain ⟨B, fb, db, h1, h2⟩ := ud_cons h.ud hN
      refine ⟨B, fb, db, h1, h2.mono ?_⟩
      rintro e w' ⟨rfl, t, h3, h4⟩
      exact ⟨x, true, R, rfl, t, .inl ⟨E, h.step h3 h4⟩, .inl ⟨rfl, rfl⟩⟩
  · refine .inr ?_
    obtain ⟨lb, v, y, h1, h2, h3, h4, h5, h6⟩ := p.ex
    refine ⟨lb, h1.cell rfl, ?_⟩
    cases R with
    | nil =>
      refine (cnext_nil h3 h5).mono ?_
      rintro e w' ⟨rfl, hb⟩
      exact ⟨(0, 0), false, [], rfl, Trn.of_below hb, UW.below (.inr ⟨E, h, p⟩) hb, .inr ⟨rfl, rfl, rfl⟩⟩
    | cons x R =>
      refine (cnext_cons h3 h5 fun k e => ⟨h.fb k (h6 k e).2.1, fun e2 => by
        obtain ⟨⟨cs, hc⟩, _⟩ := h6 k e
        exact hc.ne h3 (by decide) e2⟩).mono ?_
      rintro e w' ⟨rfl, v', k1, k2, t⟩
      have t2 : Trn s.1 w w' := t.mono fun b _ e => e ▸ h4
      have fo : FarOnly farD w w' := fun k hk hn => t.block k hk fun e => by
        have e : k = lb := e
        subst e
        exact hn _ _ (by decide) h3
      have hk : ∀ k cs t, Blk w k cs t → t ≠ tLs → w'.heap[k]? = w.heap[k]? := fun k cs t' hB hn => t.block k hB.lt fun e => by
        have e : k = lb := e
        subst e
        exact hB.ne h3 hn rfl
      refine ⟨x, true, R, rfl, t2, .inr ⟨E, h.moved fo t2.size, ⟨lb, v', y, h1.kept (hk _ _ _ h1 (by decide)), .inl h2, k1, .inl h4, k2, fun k e => ?_⟩, fun k e => ?_, p.y.1.kept (hk _ _ _ p.y.1 (by decide)), .inl p.y.2⟩, .inl ⟨rfl, rfl⟩⟩
      · obtain ⟨⟨cs, hc⟩, hs, hv⟩ := h6 k e
        exact ⟨⟨cs, hc.kept (hk _ _ _ hc (by decide))⟩, .inl hs, hv⟩
      · obtain ⟨⟨a, b, hv⟩, fv⟩ := p.v k e
        exact ⟨⟨a, b, hv.kept (hk _ _ _ hv (by decide))⟩, .inl fv⟩
set_option maxHeartbeats 1000000 in
theorem dend0 {S : Du.St} {L : TL} {hv : Value} {ao : Option Addr} {cap : Nat} (h : DueE X S L hv (.slice ao 0 cap) w) :
    CallsDIn Fence.wide m Try.prog 72 #[.pointer (some ⟨X, 7, none⟩), .pointer (some ⟨xb, 0, none⟩)] .returning w fun e u' w' => u' = .returning ∧ e = .returned (.tuple #[]) ∧ Below w.heap.size w w' := by
  obtain ⟨_, _, _, _, _, q7, qf⟩ := h.cells
  refine callsDIn_of_wp Try.func72 rfl trivial (wpIn_wide.2 ?_) rfl
  simp only [Try.ntmps72, List.size_toArray, List.length_cons, List.length_nil, Nat.reduceAdd, Nat.reduceSub, Array.replicate_succ, Array.replicate_zero, List.push_toArray, List.append_toArray, List.nil_append, List.cons_append]
  go_wp2
  refine wp_loop_rounds 1 ?_
  rw [rounds_succ]
  go_wp2
  refine bodyPost_end (results_none rfl _ _ _) rfl ?_
  first
    | exact Below.refl _ _
    | exact ⟨rfl, Below.refl _ _⟩
theorem uw_end (h : UW X most xb yb l vb R s w) : CallsDIn Fence.wide m Try.prog 72 #[.pointer (some ⟨X, 7, none⟩), .pointer (some ⟨xb, 0, none⟩)] .returning w fun e u' w' => u' = .returning ∧ e = .returned (.tuple #[]) ∧ Trn s.1 w w' ∧ ∃ E, DV X E s.2 (grow s.1 w w') w' := by
  rcases h with ⟨E, h⟩ | ⟨E, h, p⟩
  · refine (ud_end h.ud).mono ?_
    rintro e u' w' ⟨rfl, rfl, t, hv⟩
    exact ⟨rfl, rfl, t, E, hv⟩
  · obtain ⟨S, L, hv, wv, o, h1, h2, h3, h4, h5, _⟩ := id h.ex
    obtain ⟨ao, cap, hwv, _⟩ := ownK_form h5
    have hwv : wv = .slice ao 0 cap := hwv
    subst hwv
    refine (dend0 h1).mono ?_
    rintro e u' w' ⟨rfl, rfl, hb⟩
    exact ⟨rfl, rfl, Trn.of_below hb, E, h.moved (FarOnly.of_below hb) hb.size⟩
end
end Go.Proofs.Ytchlemajppnehaa

/- A Due is changed during a walk: Set and Drop. -/
set_option maxRecDepth 100000
namespace Go.Proofs.Ytchlemajppnehaa
open Go Go.RowKit Go.Shelf Go.Maps
section
variable {X : Nat} {S : Du.St} {L : TL} {dv hv wv : Value} {o : List Nat} {E R : List (Int × Int)} {most : Int} {N xb yb l : Nat} {vb : Option Nat} {s : Ws} {f : Nat → Prop} {w w0 w1 w' : World}
/-- A Due's own blocks. -/
def ownD (X : Nat) (L : TL) (dv : Value) (k : Nat) : Prop := k = X ∨ k = L.M ∨ k = L.R ∨ L.sv.ownBlock = some k ∨ dv.ownBlock = some k
theorem UDp.ownD (h : UDp X S L dv o E most N xb R f w) : ∀ k, ownD X L dv k → f k := by
  obtain ⟨g, cap, hv, T, B, db, mb, fb, j, h1, h2, h3, h4, h5, h6, h7, h8, h9, fM, fR, fs, fd, _⟩ := h.ex
  rintro k (rfl | rfl | rfl | e | e)
  · exact h.fX
  · exact fM
  · exact fR
  · exact fs _ e
  · exact fd _ e
theorem UDp.due (h : UDp X S L dv o E most N xb R f w) : ∃ wv, DueE X S L dv wv w ∧ Du.InvD S o N ∧ E = o.map (Du.ent S) ∧ L.n ≤ N := by
  obtain ⟨g, cap, hv, T, B, db, mb, fb, j, h1, h2, h3, h4, h5, h6, _⟩ := h.ex
  obtain ⟨s, hw, _⟩ := h1.ex
  exact ⟨_, hw.due, h3, h5, h6⟩
theorem UDp.below' (h : UDp X S L dv o E most N xb R f w) (hb : Below w.heap.size w w') : UDp X S L dv o E most N xb R (grow f w w') w' := h.below hb
theorem UD.more {N' : Nat} (h : UD X E most N xb R f w) (hN : N ≤ N') : UD X E most N' xb R f w := by
  obtain ⟨S, L, g, cap, dv, hv, o, T, B, db, mb, fb, j, h1, h2, h3, h4, h5, h6, h7⟩ := h.ex
  exact ⟨⟨S, L, g, cap, dv, hv, o, T, B, db, mb, fb, j, h1, h2, h3.more hN, h4, h5, by omega, h7⟩, h.fX, h.fb⟩
theorem UW.more {M : Nat} (h : UW X most xb yb l vb R (f, N) w) (hN : N ≤ M) : UW X most xb yb l vb R (f, M) w := by
  rcases h with ⟨E, h⟩ | ⟨E, h, p⟩
  · exact .inl ⟨E, h.ud.more hN, h.v, h.y⟩
  · exact .inr ⟨E, h.more hN, p⟩
/-- What was walked live is parted, and the Due is changed from then on. -/
theorem live_parted (h : UDx X E most N xb yb l vb R f w) (hp : UDp X S L dv o E most N xb R f w) (b0 : Below w.heap.size w w0) (P : Parted X S L dv xb R (grow f w w0) w0 w1) (t : Trn (ownD X L dv) w1 w') : Trn f w w' ∧ PBox xb yb l vb R (grow f w w') w' := by
  obtain ⟨lb, v, f1, hM, h1, h2, h3, h4⟩ := P.ex
  have hof := hp.ownD
  have z0 := b0.size
  have z1 := hM.1.size
  have z2 := t.size
  have t1 : Trn f w w1 := (Trn.of_below b0).trans hM.1
  have t2 : Trn f w w' := t1.trans (t.mono fun b _ e => .inl (hof b e))
  have hk : Kinds (ownD X L dv) w1 farD := P.due.kinds (T := farD) (by decide) (by decide) (by decide)
  have kp : ∀ k cs t', t' ∈ farD → Blk w1 k cs t' → w'.heap[k]? = w1.heap[k]? := fun k cs t' ht hB => t.block k hB.lt fun e => hk k e cs t' ht hB
  have fx : f xb := by
    obtain ⟨g, cap, hv, T, B, db, mb, fb, j, _, _, _, _, _, _, _, _, _, _, _, _, _, _, _, _, _, _, _, fx⟩ := hp.ex
    exact fx
  have old : ∀ k cs t', t' ∈ [tTm, tYd] → Blk w k cs t' → Blk w' k cs t' := fun k cs t' ht hB => by
    have hB0 := hB.kept (b0.block k hB.lt)
    have n1 : t' ≠ tHp ∧ t' ≠ 3 ∧ t' ≠ tWb ∧ t' ≠ tDue ∧ t' ∈ farD := by
      simp only [List.mem_cons, List.not_mem_nil, or_false] at ht
      rcases ht with rfl | rfl <;> decide
    have hB1 := hB0.kept (P.old k cs t' n1.1 n1.2.1 n1.2.2.1 n1.2.2.2.1 hB0)
    exact hB1.kept (kp k cs t' n1.2.2.2.2 hB1)
  have hfb := h.ud.fb
  refine ⟨t2, ⟨lb, v, fun b => v.ownBlock = some b, h1.kept (kp _ _ _ (by decide) h1), .inl fx, h3.kept (kp _ _ _ (by decide) h3), .inr ⟨by omega, by have := h3.lt; omega⟩, ?_, fun k e => ?_⟩, fun k e => ?_, old _ _ _ (by decide) h.y.1, .inl h.y.2⟩
  · refine RK.own (own_kept h4 fun b e => ?_) fun b e => e
    obtain ⟨c, hc⟩ := own_blk' h4 e
    exact kp _ _ _ (by decide) hc
  · obtain ⟨c, hc⟩ := own_blk' h4 e
    have hlo := own_low h4 e
    refine ⟨⟨c, hc.kept (kp _ _ _ (by decide) hc)⟩, .inr ⟨by omega, by have := hc.lt; omega⟩, fun e2 => ?_⟩
    have := hfb k (h.v k e2).2
    omega
  · obtain ⟨⟨a, b, hv⟩, fv⟩ := h.v k e
    exact ⟨⟨a, b, old _ _ _ (by decide) hv⟩, .inl fv⟩
set_option maxHeartbeats 1000000 in
theorem ddrop_noG (h1 : DueE X S L hv wv w) {k : Int} (hk : I64 k) (hg : S.T.g k = none) :
    Calls Try.prog 26 #[.pointer (some ⟨X, 0, none⟩), .int .i64 k] w fun e w' => e = .returned (.bool false) ∧ Below w.heap.size w w' := by
  go_enter Try.func26, Try.ntmps26
  go_wp2_with fail
  refine (dfind_any h1 hk).mono ?_
  rintro e w1 ⟨rfl, b1⟩
  rw [hg]
  go_wp2
  go_ret
  exact ⟨rfl, b1⟩
/-- What parts a live walk, from any world behind. -/
theorem live_hp (hp : UDp X S L dv o E most N xb R f w) (hN : N < 80000) (hR : R.length < 90000) : ∀ w0, Below w.heap.size w w0 → Calls Try.prog 45 #[.pointer (some ⟨X, 7, none⟩)] w0 fun e w1 => e = .returned (.tuple #[]) ∧ DueE X S L dv (.slice none 0 0) w1 ∧ w0.heap.size ≤ w1.heap.size ∧ ∃ w0, Below w.heap.size w w0 ∧ Parted X S L dv xb R (grow f w w0) w0 w1 := fun w0 b0 => by
  refine (dpart1 (hp.below b0) hN hR).mono ?_
  rintro e w1 ⟨rfl, P⟩
  obtain ⟨lb, v, f1, hM, _⟩ := P.ex
  exact ⟨rfl, P.due, hM.1.size, w0, b0, P⟩
/-- What a change of a live one comes to. -/
theorem live_fin {E' : List (Int × Int)} (h : UDx X E most N xb yb l vb R f w) (hp : UDp X S L dv o E most N xb R f w) (hq : ∃ w0, Below w.heap.size w w0 ∧ Parted X S L dv xb R (grow f w w0) w0 w1) (t : Trn (ownD X L dv) w1 w') (hv : DV X E' (N + 1) (grow (ownD X L dv) w1 w') w') : Trn f w w' ∧ UW X most xb yb l vb R (grow f w w', N + 1) w' := by
  obtain ⟨w0, b0, P⟩ := hq
  obtain ⟨t2, p⟩ := live_parted h hp b0 P t
  obtain ⟨lb, v, f1, hM, _⟩ := P.ex
  have z0 := b0.size
  have z1 := hM.1.size
  exact ⟨t2, .inr ⟨E', hv.wide (fun k e => e.imp (hp.ownD k) fun e => ⟨by omega, e.2⟩) (fun k e => e.elim (fun e => Nat.lt_of_lt_of_le (h.ud.fb k e) t2.size) (fun e => e.2)), p⟩⟩
/-- What a change of a parted one comes to. -/
theorem parted_fin {E' : List (Int × Int)} {d : Nat → Prop} (p : PBox xb yb l vb R f w) (hfb : ∀ k, f k → k < w.heap.size) (hd : ∀ k, d k → f k) (hk : Kinds d w farD) (t : Trn d w w') (hv : DV X E' (N + 1) (grow d w w') w') : Trn f w w' ∧ UW X most xb yb l vb R (grow f w w', N + 1) w' := by
  have t2 : Trn f w w' := t.mono fun b _ e => hd b e
  exact ⟨t2, .inr ⟨E', hv.wide (fun k e => e.imp (hd k) id) (fun k e => e.elim (fun e => Nat.lt_of_lt_of_le (hfb k e) t2.size) (fun e => e.2)), p.kept (fun k cs t' ht hB _ => t.block k hB.lt fun e => hk k e cs t' ht hB) fun k e => .inl e⟩⟩
theorem uw_set (h : UW X most xb yb l vb R (f, N) w) (hN : N < 80000) (hR : R.length < 90000) {k a : Int} (hk : I64 k) (ha : I64 a) :
    Calls Try.prog 24 #[.pointer (some ⟨X, 0, none⟩), .int .i64 k, .int .i64 a] w fun e w' => e = .returned (.tuple #[]) ∧ Trn f w w' ∧ UW X most xb yb l vb R (grow f w w', N + 1) w' := by
  rcases h with ⟨E, h⟩ | ⟨E, h, p⟩
  · obtain ⟨S, L, dv, o, hp⟩ := h.ud.fix
    obtain ⟨wv, h1, h2, rfl, h4⟩ := hp.due
    have hof := hp.ownD
    have hfb := fun k e => h.ud.fb k (hof k e)
    have HP := live_hp hp hN hR
    by_cases hm : k ∈ (o.map (Du.ent S)).map (·.1)
    · refine (dset_oldG h1 h2 h4 (f := ownD X L dv) (.inl rfl) (.inr (.inl rfl)) (.inr (.inr (.inl rfl))) (fun g e => .inr (.inr (.inr (.inl e)))) (fun g e => .inr (.inr (.inr (.inr e)))) hfb HP hk hm hN ha).mono ?_
      rintro e w' ⟨rfl, w1, hq, t, hv⟩
      exact ⟨rfl, live_fin h hp hq t hv⟩
    · refine (dset_newG h1 h2 h4 (f := ownD X L dv) (.inl rfl) (.inr (.inl rfl)) (.inr (.inr (.inl rfl))) (fun g e => .inr (.inr (.inr (.inl e)))) (fun g e => .inr (.inr (.inr (.inr e)))) hfb HP hk hm hN ha).mono ?_
      rintro e w' ⟨rfl, w1, hq, t, hv⟩
      exact ⟨rfl, live_fin h hp hq t hv⟩
  · obtain ⟨d, hd, hdf, hdk⟩ := h.core
    by_cases hm : k ∈ E.map (·.1)
    · refine (dset_old hd hk hm hN ha).mono ?_
      rintro e w' ⟨rfl, t, hv⟩
      exact ⟨rfl, parted_fin p h.fb hdf hdk t hv⟩
    · refine (dset_new hd hk hm hN ha).mono ?_
      rintro e w' ⟨rfl, t, hv⟩
      exact ⟨rfl, parted_fin p h.fb hdf hdk t hv⟩
theorem uw_drop (h : UW X most xb yb l vb R (f, N) w) (hN : N < 80000) (hR : R.length < 90000) {k : Int} (hk : I64 k) :
    Calls Try.prog 26 #[.pointer (some ⟨X, 0, none⟩), .int .i64 k] w fun e w' => (∃ b, e = .returned (.bool b)) ∧ Trn f w w' ∧ UW X most xb yb l vb R (grow f w w', N + 1) w' := by
  rcases h with ⟨E, h⟩ | ⟨E, h, p⟩
  · obtain ⟨S, L, dv, o, hp⟩ := h.ud.fix
    obtain ⟨wv, h1, h2, rfl, h4⟩ := hp.due
    have hof := hp.ownD
    have hfb := fun k e => h.ud.fb k (hof k e)
    have HP := live_hp hp hN hR
    by_cases hm : k ∈ (o.map (Du.ent S)).map (·.1)
    · refine (ddrop_hasG h1 h2 h4 (f := ownD X L dv) (.inl rfl) (.inr (.inl rfl)) (.inr (.inr (.inl rfl))) (fun g e => .inr (.inr (.inr (.inl e)))) (fun g e => .inr (.inr (.inr (.inr e)))) hfb HP hk hm hN).mono ?_
      rintro e w' ⟨rfl, w1, hq, t, hv⟩
      exact ⟨⟨_, rfl⟩, live_fin h hp hq t hv⟩
    · refine (ddrop_noG h1 hk (h2.none hm)).mono ?_
      rintro e w' ⟨rfl, hb⟩
      exact ⟨⟨_, rfl⟩, Trn.of_below hb, UW.more (N := N) (UW.below (s := (f, N)) (.inl ⟨_, h⟩) hb) (Nat.le_succ N)⟩
  · obtain ⟨d, hd, hdf, hdk⟩ := h.core
    by_cases hm : k ∈ E.map (·.1)
    · refine (ddrop_has hd hk hm hN).mono ?_
      rintro e w' ⟨rfl, t, hv⟩
      exact ⟨⟨_, rfl⟩, parted_fin p h.fb hdf hdk t hv⟩
    · refine (ddrop_no h hk hm).mono ?_
      rintro e w' ⟨rfl, hb⟩
      exact ⟨⟨_, rfl⟩, Trn.of_below hb, UW.more (N := N) (UW.below (s := (f, N)) (.inr ⟨_, h, p⟩) hb) (Nat.le_succ N)⟩
end
end Go.Proofs.Ytchlemajppnehaa

/- A Due's walk: the run. -/
set_option maxRecDepth 100000
namespace Go.Proofs.Ytchlemajppnehaa
open Go Go.RowKit Go.Shelf Go.Maps
attribute [local go_sem] Oper.semAt_some
section
variable {X : Nat} {E : List (Int × Int)} {most : Int} {N yb l m : Nat} {f : Nat → Prop} {W : World}
def HeadD (X : Nat) (E T0 : List (Int × Int)) (most : Int) (N xb yb l : Nat) (C : List (Int × Int) → (Nat → Prop) → World → Prop) (n : Nat) (v ok : Value) (wr : World) : Prop :=
  ∃ x okb vb, v = .pointer (some ⟨vb, 0, none⟩) ∧ ok = .bool okb ∧ NextD X E T0 most N xb yb l (some vb) C n x okb wr ∧ Blk wr vb [.int .i64 x.1, .int .i64 x.2] 69
set_option maxHeartbeats 8000000 in
theorem drun_in (hm : 1 ≤ m) (hN : N < 80000) {S : Du.St} {L : TL} {ao : Option Addr} {cap B db mb fb : Nat} {o T : List Nat} {dv hv : Value} (h1 : WalkE X B db mb fb S L most T (.slice ao 0 cap) dv hv 0 W) (h2 : OwnK encW 1 tWk 0 (.slice ao 0 cap) [] W) (h3 : Du.InvD S o N) (hO : Du.Ordered S most o T) (h5 : E = o.map (Du.ent S)) (h8 : L.n ≤ N)
    (hyb : Blk W yb [.func (.yield l) #[] #[]] 27) (fy : f yb)
    (fX : f X) (fM : f L.M) (fR : f L.R) (fs : ∀ b, L.sv.ownBlock = some b → f b) (fd : ∀ b, dv.ownBlock = some b → f b) (fh : ∀ b, hv.ownBlock = some b → f b) (fg : ∀ b, (Value.slice ao 0 cap).ownBlock = some b → f b) (fB : f B) (fdb : f db) (fm : f mb) (ff : f fb) (fb' : ∀ k, f k → k < W.heap.size)
    (C Cx : List (Int × Int) → (Nat → Prop) → World → Prop) (hC : ∀ pre s s' W W', C pre s W → MvL s W s' W' → C pre s' W') (hCx : ∀ pre s s' W W', Cx pre s W → MvL s W s' W' → Cx pre s' W') (h0 : C [] f W)
    (hY : ∀ xb vb pre x R s W1, pre ++ x :: R = T.map (Du.ent S) → UDx X E most N xb yb l vb R s W1 → C pre s W1 → YieldAt Fence.wide (m - 1) Try.prog l (encP x) W1 fun e W' =>
      (e = .returned (.bool true) ∧ ∃ s', UDx X E most N xb yb l vb R s' W' ∧ C (pre ++ [x]) s' W') ∨ (e = .returned (.bool false) ∧ ∃ s', UDx X E most N xb yb l vb R s' W' ∧ Cx (pre ++ [x]) s' W')) :
    CallsIn Fence.wide m Try.prog 52 #[.pointer (some ⟨X, 7, none⟩), nfD B fb db, .func (.func 54) #[] #[.pointer (some ⟨yb, 0, none⟩)]] W fun e W' => (∃ v, e = .returned v) ∧ ∃ s, DV X E N s W' ∧ (C (T.map (Du.ent S)) s W' ∨ ∃ pre, pre <+: T.map (Du.ent S) ∧ Cx pre s W') := by
  obtain ⟨s0, hw0, _⟩ := h1.ex
  obtain ⟨_, _, _, _, _, q6, qf⟩ := hw0.due.cells
  have HY := Lib.hid hY
  have HC := Lib.hid hC
  have HCx := Lib.hid hCx
  have H0 := Lib.hid h0
  clear hY hC hCx h0
  generalize hT0 : T.map (Du.ent S) = T0 at *
  unfold nfD
  refine callsIn_of_wp_defers Try.func52 rfl trivial ?_ rfl
  simp only [Try.ntmps52, List.size_toArray, List.length_cons, List.length_nil, Nat.reduceAdd, Nat.reduceSub, Array.replicate_succ, Array.replicate_zero, List.push_toArray, List.append_toArray, List.nil_append, List.cons_append]
  have nb := Blk.new W [nfD B fb db] 95
  have hba : Below W.heap.size W (W.alloc (.cells #[nfD B fb db] 95)) := (Below.refl _ _).alloc (Nat.le_refl _) _
  have hXW : X < W.heap.size := fb' X fX
  have e1 := h1.below hba
  obtain ⟨s1, hw1, _⟩ := e1.ex
  obtain ⟨_, _, _, _, _, q6', _⟩ := hw1.due.cells
  have o1 := ownK_below h2 hba
  have y1 := hyb.kept (hba.block _ hyb.lt)
  have hyl := hyb.lt
  unfold nfD at q6' nb
  gi_wp2_with (gi_at_builtin; go_loud (
     refine wpListIn_apK encW_len (by decide) encW_one (x := fun _ => True) Try.underlying65 infoWk rfl (by decide) rfl _ _ rfl rfl 0 (.slice ao 0 cap) [] rfl (ownK_alloc (ownK_alloc h2 _) _) (.slice (some ⟨W.heap.size + 1, 0, none⟩) 1 1) [W.heap.size] (by simp) rfl (RK.oneN (enc := encW) W.heap.size tWk _ _ (by simp) _ rfl) (by simp) (Nat.zero_le _) ?_
     intro g cp w1 ho1 hg1 hl1
     simp only [List.nil_append, List.length_singleton] at ho1
     obtain ⟨E2, B2, hgg, hXg, hKK⟩ := drun_made hg1 hl1 e1 o1 nb
     obtain ⟨s2, hw2, _⟩ := E2.ex
     obtain ⟨_, _, _, _, _, q62, f62⟩ := hw2.due.cells
     have d3 := B2.cell (i := 0) rfl
     have hne : ¬ W.heap.size = X := fun e => by omega
     have hUL := drun_begin E2 ho1 B2 hgg hXg hKK h2 hba ⟨hg1.os.symm, hg1.tape.symm, hg1.output.symm, Nat.le_trans (by simp) hg1.size⟩ (Nat.le_refl _) h3 hO h5 h8 fX fM fR fs fd fh fg fB fdb fm ff fb'
     have y2 : Blk w1 yb [.func (.yield l) #[] #[]] 27 := y1.kept (hKK yb y1.lt (fun e => by
       obtain ⟨d, hd⟩ := own_blk' o1 e
       exact y1.ne hd (by decide) rfl))))
  obtain ⟨t3, hU⟩ := hUL
  rw [hT0] at hU
  have d4 := (B2.other hne 7 (.slice (some ⟨g, 0, none⟩) 1 cp)).cell (i := 0) rfl
  have y3 := y2.other (B := yb) (show yb ≠ X from fun e => by
    obtain ⟨bx, ht, _⟩ := hw2.due.ex
    exact y2.ne ht.box (by decide) e) 7 (.slice (some ⟨g, 0, none⟩) 1 cp)
  have hUx : UDx X E most N W.heap.size yb l none T0 _ _ := ⟨hU, fun k e => (by cases e), y3, .inl fy⟩
  clear hKK hne d3 f62 q62 hgg hXg B2 E2 hl1 hg1 ho1 o1 e1 q6' hba nb q6 qf h8 h5 h1 h2 h3 hU y1 y2 y3 hyb hw0 hw1 hw2 hO hT0
  generalize w1.setCell ⟨X, 7, none⟩ (.slice (some ⟨g, 0, none⟩) 1 cp) = W3 at *
  have hC3 := HC.out _ _ _ _ _ H0.out (mvL t3)
  generalize hxb : W.heap.size = xb at *
  obtain ⟨lb', cb', ab', c1, c2⟩ := ud_next hUx hN (pre := []) rfl HC.out hC3
  have hnf : nfD lb' cb' ab' = nfD B fb db := by
    rw [d4] at c1
    exact (Option.some.inj c1).symm
  unfold nfD at hnf
  simp at hnf
  obtain ⟨rfl, rfl, rfl⟩ := hnf
  clear c1 d4
  refine ⟨trivial, ?_⟩
  refine (callsIn_wide.2 c2).mono ?_
  rintro e w2 ⟨x0, ok0, rfl, hR0⟩
  clear c2
  obtain ⟨hR, nb2⟩ := hR0.boxed HC.out
  have hH : HeadD X E T0 most N xb yb l C T0.length (.pointer (some ⟨w2.heap.size, 0, none⟩)) (.bool ok0) _ := ⟨x0, ok0, _, rfl, rfl, hR, nb2⟩
  clear hR nb2 hR0
  gi_wp2_with fail
  gi_loopw [7, 8] (fun v ok wr => ∃ n, HeadD X E T0 most N xb yb l C n v ok wr) (fun v ok wr => leastOf (fun n => HeadD X E T0 most N xb yb l C n v ok wr))
  case atStart => exact ⟨_, hH⟩
  case round =>
    clear hH hUx hC3 H0 t3
    obtain ⟨hR1, hmin⟩ := leastOf_spec hrel
    obtain ⟨x, okb, vb, rfl, rfl, ⟨pre, f1, hc, ⟨R, hT, hn, rfl, hU1⟩ | ⟨hT, hn, rfl, hU1⟩⟩, hvb⟩ := hR1
    · have HN := Lib.hid hn
      have d0 := hvb.cell (i := 0) rfl
      have d1 := hvb.cell (i := 1) rfl
      clear hn hmin hrel
      have hT2 : (pre ++ [x]) ++ R = T0 := by rw [List.append_assoc]; exact hT
      have HT2 := Lib.hid hT2
      have hpre : pre ++ [x] <+: T0 := ⟨R, hT2⟩
      have htl := dtell hm hU1 hc (fun s s' W W' h h' => HC.out pre s s' W W' h h') (fun s W1 hu hc => HY.out xb (some vb) pre x R s W1 hT hu hc) (fun e W' h => h.elim (fun h => ⟨true, h.1⟩) (fun h => ⟨false, h.1⟩))
      unfold encT at htl
      have HTL := Lib.hid htl
      clear hT2 hT hU1 hc htl
      gi_wp2_with fail
      refine ⟨trivial, ?_⟩
      refine (callsIn_wide.2 (callsIn_wide.1 HTL.out)).mono ?_
      intro e W4 hor
      rcases hor with ⟨rfl, s', hU', hC'⟩ | ⟨rfl, s', hU', hC'⟩
      · obtain ⟨B2, fb2, db2, c1, c2⟩ := ud_next hU' hN (pre := pre ++ [x]) HT2.out HC.out hC'
        unfold nfD at c1
        clear d0 d1 hvb
        gi_wp2_with fail
        refine ⟨trivial, ?_⟩
        refine (callsIn_wide.2 c2).mono ?_
        rintro e w5 ⟨x5, ok5, rfl, hR5⟩
        have HN2 := HN.out
        clear c1 c2 hU' hC'
        obtain ⟨a5, b5, v5⟩ := hR5.v
        have n1 := hR5.stored (i := 0) (u := .int .i64 x5.1) HC.out v5 ⟨_, _, v5.set 0 _⟩
        have n2 := n1.stored (i := 1) (u := .int .i64 x5.2) HC.out (v5.set 0 _) ⟨_, _, (v5.set 0 _).set 1 _⟩
        have j0 := v5.cell (i := 0) rfl
        have j1 := v5.cell (i := 1) rfl
        have jf := v5.frozen
        obtain ⟨n3, n4⟩ := n2.boxed HC.out
        rw [show ((w5.setCell ⟨vb, 0, none⟩ (.int .i64 x5.1)).setCell ⟨vb, 1, none⟩ (.int .i64 x5.2)).heap.size = w5.heap.size by simp] at n3 n4
        have hR6 : HeadD X E T0 most N xb yb l C R.length (.pointer (some ⟨_, 0, none⟩)) (.bool ok5) _ := ⟨x5, ok5, _, rfl, rfl, n3, n4⟩
        clear n1 n2 n3 n4 hR5
        gi_wp2_with fail
        go_roundw
        case rel => exact ⟨_, hR6⟩
        case measure =>
          have h5 := (leastOf_spec (p := fun n => HeadD X E T0 most N xb yb l C n (.pointer (some ⟨_, 0, none⟩)) (.bool ok5) _) ⟨_, hR6⟩).2 _ hR6
          rw [HN2]
          exact Nat.lt_succ_of_le h5
      · clear d0 d1 hvb
        gi_wp2_with fail
        refine leavesIn_cons (fv := .func 72) (cap := #[]) (dargs := #[.pointer (some ⟨X, 7, none⟩), .pointer (some ⟨xb, 0, none⟩)]) (f := 72) (args := #[.pointer (some ⟨X, 7, none⟩), .pointer (some ⟨xb, 0, none⟩)]) (by simp) (fun e => by cases e) (by simp [go_sem]) (fun _ _ => trivial) ?_
        refine (ud_end hU'.ud).mono ?_
        rintro e u' w6 ⟨rfl, rfl, t6, hV⟩
        exact ⟨_, results_none rfl _ _ _, ⟨_, rfl⟩, _, hV, .inr ⟨_, hpre, HCx.out _ _ _ _ _ hC' (mvL t6)⟩⟩
    · have HC1 := Lib.hid hc
      have HU1 := Lib.hid hU1
      clear hc hn hmin hrel hU1
      have HT := Lib.hid hT
      clear hT
      gi_wp2_with fail
      first
        | (refine leavesIn_cons (fv := .func 72) (cap := #[]) (dargs := #[.pointer (some ⟨X, 7, none⟩), .pointer (some ⟨xb, 0, none⟩)]) (f := 72) (args := #[.pointer (some ⟨X, 7, none⟩), .pointer (some ⟨xb, 0, none⟩)]) (by simp) (fun e => by cases e) (by simp [go_sem]) (fun _ _ => trivial) ?_)
        | (refine ⟨(fun _ e => by cases e), ?_⟩
           gi_wp2_with fail
           refine leavesIn_cons (fv := .func 72) (cap := #[]) (dargs := #[.pointer (some ⟨X, 7, none⟩), .pointer (some ⟨xb, 0, none⟩)]) (f := 72) (args := #[.pointer (some ⟨X, 7, none⟩), .pointer (some ⟨xb, 0, none⟩)]) (by simp) (fun e => by cases e) (by simp [go_sem]) (fun _ _ => trivial) ?_)
      refine (ud_end HU1.out.ud).mono ?_
      rintro e u' w6 ⟨rfl, rfl, t6, hV⟩
      refine ⟨_, results_none rfl _ _ _, ⟨_, rfl⟩, _, hV, .inl ?_⟩
      have h7 := HC.out _ _ _ _ _ HC1.out (mvL t6)
      rw [HT.out] at h7
      exact h7
end
end Go.Proofs.Ytchlemajppnehaa
