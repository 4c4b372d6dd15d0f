/- 5 texts put together: Drunb, Wco, Pl, Md, Wcn. -/
import Derived.LoopTactic
import Derived.Test.YtchlemajppnehaaJW2
import Derived.Test.YtchlemajppnehaaJW7
import Derived.Test.YtchlemajppnehaaJW19
/- A Due's walk: the run's loop. -/
set_option maxRecDepth 100000
namespace Go.Proofs.Ytchlemajppnehaa
open Go Go.RowKit Go.Shelf Go.Maps
attribute [local go_sem] Oper.semAt_some
section
variable {X : Nat} {E T0 : List (Int × Int)} {most : Int} {N xb yb l m : Nat} {vb : Option Nat} {f : Nat → Prop} {w w' : World}
/-- What the next step gives: one, and that it is one; or none. -/
def NextD (X : Nat) (E T0 : List (Int × Int)) (most : Int) (N xb yb l : Nat) (vb : Option Nat) (C : List (Int × Int) → (Nat → Prop) → World → Prop) (n : Nat) (x : Int × Int) (ok : Bool) (w : World) : Prop :=
  ∃ pre f, C pre f w ∧ ((∃ R, pre ++ x :: R = T0 ∧ n = R.length + 1 ∧ ok = true ∧ UDx X E most N xb yb l vb R f w) ∨ (pre = T0 ∧ n = 0 ∧ ok = false ∧ UDx X E most N xb yb l vb [] f w))
theorem UDx.step {R : List (Int × Int)} (h : UDx X E most N xb yb l vb R f w) {R' : List (Int × Int)} (hu : UD X E most N xb R' (grow f w w') w') (hk : ∀ (b : Nat) (cs : List Value) (t : TypeId), t ≠ tHp → t ≠ 3 → Blk w b cs t → w'.heap[b]? = w.heap[b]?) : UDx X E most N xb yb l vb R' (grow f w w') w' := by
  exact ⟨hu, fun k e => by
    obtain ⟨⟨a, b, hv⟩, fv⟩ := h.v k e
    exact ⟨⟨a, b, hv.kept (hk _ _ _ (by decide) (by decide) hv)⟩, .inl fv⟩, h.y.1.kept (hk _ _ _ (by decide) (by decide) h.y.1), .inl h.y.2⟩
theorem ud_next {R pre : List (Int × Int)} {C : List (Int × Int) → (Nat → Prop) → World → Prop} (h : UDx X E most N xb yb l vb R f w) (hN : N < 80000) (hR : pre ++ R = T0) (hC : ∀ pre s s' W W', C pre s W → MvL s W s' W' → C pre s' W') (h0 : C pre f w) : ∃ B fb db, w.cell? ⟨xb, 0, none⟩ = some (nfD B fb db) ∧
    Calls Try.prog 75 #[.pointer (some ⟨B, 0, none⟩), .pointer (some ⟨fb, 0, none⟩), .pointer (some ⟨db, 0, none⟩)] w fun e w' => ∃ x ok, e = .returned (.tuple #[.agg #[.int .i64 x.1, .int .i64 x.2], .bool ok]) ∧ NextD X E T0 most N xb yb l vb C R.length x ok w' := by
  cases R with
  | nil =>
    obtain ⟨B, fb, db, h1, h2⟩ := ud_nil h.ud
    refine ⟨B, fb, db, h1, h2.mono ?_⟩
    rintro e w' ⟨rfl, t, h3, h4⟩
    exact ⟨(0, 0), false, rfl, pre, _, hC _ _ _ _ _ h0 (mvL t), .inr ⟨by simpa using hR, rfl, rfl, h.step h3 h4⟩⟩
  | cons x R =>
    obtain ⟨B, fb, db, h1, h2⟩ := ud_cons h.ud hN
    refine ⟨B, fb, db, h1, h2.mono ?_⟩
    rintro e w' ⟨rfl, t, h3, h4⟩
    exact ⟨x, true, rfl, pre, _, hC _ _ _ _ _ h0 (mvL t), .inl ⟨R, hR, rfl, rfl, h.step h3 h4⟩⟩
/-- The one in hand is put into the run's own box: a new one. -/
theorem NextD.boxed {C : List (Int × Int) → (Nat → Prop) → World → Prop} {n : Nat} {x : Int × Int} {ok : Bool} (h : NextD X E T0 most N xb yb l vb C n x ok w) (hC : ∀ pre s s' W W', C pre s W → MvL s W s' W' → C pre s' W') :
    NextD X E T0 most N xb yb l (some w.heap.size) C n x ok (w.alloc (.cells #[.int .i64 x.1, .int .i64 x.2] 69)) ∧ Blk (w.alloc (.cells #[.int .i64 x.1, .int .i64 x.2] 69)) w.heap.size [.int .i64 x.1, .int .i64 x.2] 69 := by
  have hb : Below w.heap.size w (w.alloc (.cells #[.int .i64 x.1, .int .i64 x.2] 69)) := (Below.refl _ _).alloc (Nat.le_refl _) _
  have nb := Blk.new w [.int .i64 x.1, .int .i64 x.2] 69
  obtain ⟨pre, f, hc, hor⟩ := h
  have up : ∀ R, UDx X E most N xb yb l vb R f w → UDx X E most N xb yb l (some w.heap.size) R (grow f w (w.alloc (.cells #[.int .i64 x.1, .int .i64 x.2] 69))) (w.alloc (.cells #[.int .i64 x.1, .int .i64 x.2] 69)) := fun R hu =>
    ⟨hu.ud.below hb, fun k e => by cases e; exact ⟨⟨_, _, nb⟩, .inr ⟨Nat.le_refl _, nb.lt⟩⟩, (hu.below hb).y⟩
  refine ⟨⟨pre, _, hC _ _ _ _ _ hc (mvL (Trn.of_below (f := f) hb)), ?_⟩, nb⟩
  rcases hor with ⟨R, a, b, c, hu⟩ | ⟨a, b, c, hu⟩
  · exact .inl ⟨R, a, b, c, up R hu⟩
  · exact .inr ⟨a, b, c, up [] hu⟩
/-- A store into a timed one of the run's own. -/
theorem UD.store {R : List (Int × Int)} (h : UD X E most N xb R f w) {k i : Nat} {u : Value} {cs : List Value} (hk : Blk w k cs 69) (fk : f k) : UD X E most N xb R (grow f w (w.setCell ⟨k, i, none⟩ u)) (w.setCell ⟨k, i, none⟩ u) ∧ Trn f w (w.setCell ⟨k, i, none⟩ u) := by
  obtain ⟨S, L, g, cap, dv, hv, o, T, B, db, mb, fb, j, h1, h2, h3, h4, h5, h6, h7, h8, h9, fM, fR, fs, fd, fh, fg, fB, fdb, fm, ff, fx⟩ := h.ex
  have t1 : Trn f w (w.setCell ⟨k, i, none⟩ u) := Trn.set hk fk i u
  obtain ⟨s, hw, hs⟩ := h1.ex
  have ho := fun b (hb : b ≠ k) => Below.heap_setCell w ⟨k, i, none⟩ u b hb
  exact ⟨⟨⟨S, L, g, cap, dv, hv, o, T, B, db, mb, fb, j, ⟨⟨s, hw.kind hk, hs⟩, h1.mbx.kept (ho _ (h1.mbx.ne hk (by decide))), h1.fbx.kept (ho _ (h1.fbx.ne hk (by decide))), h1.nm⟩, own_kept h2 (fun b e => by obtain ⟨c, hc⟩ := own_blk' h2 e; exact ho _ (hc.ne hk (by decide))), h3, h4, h5, h6, h7.kept (ho _ (h7.ne hk (by decide))), h8, h9, .inl fM, .inl fR, fun b e => .inl (fs b e), fun b e => .inl (fd b e), fun b e => .inl (fh b e), .inl fg, .inl fB, .inl fdb, .inl fm, .inl ff, .inl fx⟩, .inl h.fX, fun b e => e.elim (fun e => Nat.lt_of_lt_of_le (h.fb b e) t1.size) (fun e => e.2)⟩, t1⟩
theorem NextD.v {k : Nat} {C : List (Int × Int) → (Nat → Prop) → World → Prop} {n : Nat} {x : Int × Int} {ok : Bool} (h : NextD X E T0 most N xb yb l (some k) C n x ok w) : ∃ a b, Blk w k [.int .i64 a, .int .i64 b] 69 := by
  obtain ⟨pre, f, hc, hor⟩ := h
  rcases hor with ⟨R, _, _, _, hu⟩ | ⟨_, _, _, hu⟩
  · exact (hu.v k rfl).1
  · exact (hu.v k rfl).1
theorem NextD.stored {k i : Nat} {u : Value} {cs : List Value} {C : List (Int × Int) → (Nat → Prop) → World → Prop} {n : Nat} {x : Int × Int} {ok : Bool} (h : NextD X E T0 most N xb yb l (some k) C n x ok w) (hC : ∀ pre s s' W W', C pre s W → MvL s W s' W' → C pre s' W') (hk : Blk w k cs 69)
    (hv : ∃ a b, Blk (w.setCell ⟨k, i, none⟩ u) k [.int .i64 a, .int .i64 b] 69) : NextD X E T0 most N xb yb l (some k) C n x ok (w.setCell ⟨k, i, none⟩ u) := by
  obtain ⟨pre, f, hc, hor⟩ := h
  have up : ∀ R, UDx X E most N xb yb l (some k) R f w → UDx X E most N xb yb l (some k) R (grow f w (w.setCell ⟨k, i, none⟩ u)) (w.setCell ⟨k, i, none⟩ u) ∧ Trn f w (w.setCell ⟨k, i, none⟩ u) := fun R hu => by
    obtain ⟨h1, h2⟩ := hu.ud.store (i := i) (u := u) hk (hu.v k rfl).2
    exact ⟨⟨h1, fun k' e => by cases e; exact ⟨hv, .inl (hu.v k rfl).2⟩, hu.y.1.other (hu.y.1.ne hk (by decide)) i u, .inl hu.y.2⟩, h2⟩
  rcases hor with ⟨R, a, b, c, hu⟩ | ⟨a, b, c, hu⟩
  · obtain ⟨h1, h2⟩ := up R hu
    exact ⟨pre, _, hC _ _ _ _ _ hc (mvL h2), .inl ⟨R, a, b, c, h1⟩⟩
  · obtain ⟨h1, h2⟩ := up [] hu
    exact ⟨pre, _, hC _ _ _ _ _ hc (mvL h2), .inr ⟨a, b, c, h1⟩⟩
end
end Go.Proofs.Ytchlemajppnehaa

/- A Due, and one that is walked: the blocks that are theirs, by their kinds. -/
set_option maxRecDepth 100000
namespace Go.Proofs.Ytchlemajppnehaa
open Go Go.RowKit Go.Shelf Go.Maps
abbrev tTm : TypeId := 69
abbrev tLs : TypeId := 114
abbrev tYd : TypeId := 27
abbrev tWb : TypeId := 95
/-- No block of the set is of another kind than these. -/
def Kinds (d : Nat → Prop) (W : World) (T : List TypeId) : Prop := ∀ k, d k → ∀ cs t, t ∈ T → ¬ Blk W k cs t
def farT : List TypeId := [tTm, tLs, tYd]
def farD : List TypeId := [tTm, tLs, tYd, tWb]
theorem ne_far {t u : TypeId} {T : List TypeId} (h : t ∈ T) (hu : u ∉ T) : u ≠ t := fun e => hu (e ▸ h)
/-- A Due that is walked, its state fixed, by the walk in the box xb: R is left to be told. -/
structure UDp (X : Nat) (S : Du.St) (L : TL) (dv : Value) (o : List Nat) (E : List (Int × Int)) (most : Int) (N : Nat) (xb : Nat) (R : List (Int × Int)) (f : Nat → Prop) (W : World) : Prop where
  ex : ∃ g cap hv T B db mb fb j, WalkE X B db mb fb S L most T (.slice (some ⟨g, 0, none⟩) 1 cap) dv hv j W ∧ OwnK encW 1 tWk 0 (.slice (some ⟨g, 0, none⟩) 1 cap) [xb] W ∧ Du.InvD S o N ∧ Du.Ordered S most o T ∧ E = o.map (Du.ent S) ∧ L.n ≤ N ∧
    Blk W xb [nfD B fb db] 95 ∧ j ≤ T.length ∧ R = (T.drop j).map (Du.ent S) ∧
    f L.M ∧ f L.R ∧ (∀ b, L.sv.ownBlock = some b → f b) ∧ (∀ b, dv.ownBlock = some b → f b) ∧ (∀ b, hv.ownBlock = some b → f b) ∧ f g ∧ f B ∧ f db ∧ f mb ∧ f fb ∧ f xb
  fX : f X
  fb : ∀ k, f k → k < W.heap.size
section
variable {S : Du.St} {L : TL} {dv : Value} {o : List Nat} {m : Nat} {w' : World}
variable {X : Nat} {E R : List (Int × Int)} {most : Int} {N xb : Nat} {f : Nat → Prop} {w : World}
theorem DueE.kinds {hv wv : Value} (h : DueE X S L hv wv w) {T : List TypeId} (h1 : tDue ∉ T) (h2 : tT ∉ T) (h3 : 3 ∉ T) : Kinds (fun k => k = X ∨ k = L.M ∨ k = L.R ∨ L.sv.ownBlock = some k ∨ hv.ownBlock = some k) w T := by
  obtain ⟨bx, ht, _⟩ := h.ex
  obtain ⟨d, hd⟩ := own_blk ht.rows
  rintro k hk cs t htm hb
  rcases hk with rfl | rfl | rfl | e | e
  · exact ht.box.ne hb (ne_far htm h1) rfl
  · exact ht.map.ne hb rfl
  · exact hd.ne hb (ne_far htm h2) rfl
  · obtain ⟨c, hc⟩ := own_blk' ht.spare e
    exact hc.ne hb (ne_far htm h3) rfl
  · obtain ⟨c, hc⟩ := own_blk' h.heap e
    exact hc.ne hb (ne_far htm h3) rfl
theorem udp_nil (h : UDp X S L dv o E most N xb [] f w) : ∃ B fb db, w.cell? ⟨xb, 0, none⟩ = some (nfD B fb db) ∧
    Calls Try.prog 75 #[.pointer (some ⟨B, 0, none⟩), .pointer (some ⟨fb, 0, none⟩), .pointer (some ⟨db, 0, none⟩)] w fun e w' => e = .returned (.tuple #[.agg #[.int .i64 0, .int .i64 0], .bool false]) ∧ Trn f w w' ∧ UDp X S L dv o E most N xb [] (grow f w w') w' ∧ (∀ (b : Nat) (cs : List Value) (t : TypeId), t ≠ tHp → t ≠ 3 → Blk w b cs t → w'.heap[b]? = w.heap[b]?) := by
  obtain ⟨g, cap, hv, T, B, db, mb, fb, j, h1, h2, h3, h4, h5, h6, h7, h8, h9, fM, fR, fs, fd, fh, fg, fB, fdb, fm, ff, fx⟩ := h.ex
  have hj : j = T.length := by
    have := congrArg List.length h9
    simp only [List.length_nil, List.length_map, List.length_drop] at this
    omega
  subst hj
  refine ⟨B, fb, db, h7.cell rfl, (dnext_end h1 h3 h4).mono ?_⟩
  rintro e w2 ⟨rfl, hb⟩
  exact ⟨rfl, Trn.of_below hb, ⟨⟨g, cap, hv, T, B, db, mb, fb, T.length, h1.below hb, ownK_below h2 hb, h3, h4, h5, h6, h7.kept (hb.block _ h7.lt), h8, h9, .inl fM, .inl fR, fun b e => .inl (fs b e), fun b e => .inl (fd b e), fun b e => .inl (fh b e), .inl fg, .inl fB, .inl fdb, .inl fm, .inl ff, .inl fx⟩, .inl h.fX, fun k e => e.elim (fun e => Nat.lt_of_lt_of_le (h.fb k e) hb.size) (fun e => e.2)⟩, fun b cs t _ _ hk => hb.block b hk.lt⟩
theorem udp_cons {x : Int × Int} (h : UDp X S L dv o E most N xb (x :: R) f w) (hN : N < 80000) : ∃ B fb db, w.cell? ⟨xb, 0, none⟩ = some (nfD B fb db) ∧
    Calls Try.prog 75 #[.pointer (some ⟨B, 0, none⟩), .pointer (some ⟨fb, 0, none⟩), .pointer (some ⟨db, 0, none⟩)] w fun e w' => e = .returned (.tuple #[.agg #[.int .i64 x.1, .int .i64 x.2], .bool true]) ∧ Trn f w w' ∧ UDp X S L dv o E most N xb R (grow f w w') w' ∧ (∀ (b : Nat) (cs : List Value) (t : TypeId), t ≠ tHp → t ≠ 3 → Blk w b cs t → w'.heap[b]? = w.heap[b]?) := by
  obtain ⟨g, cap, hv, T, B, db, mb, fb, j, h1, h2, h3, h4, h5, h6, h7, h8, h9, fM, fR, fs, fd, fh, fg, fB, fdb, fm, ff, fx⟩ := h.ex
  have hj : j < T.length := by
    have := congrArg List.length h9
    simp only [List.length_cons, List.length_map, List.length_drop] at this
    omega
  rw [List.drop_eq_getElem_cons hj, List.map_cons] at h9
  injection h9 with e1 e2
  obtain ⟨d, hd⟩ := own_blk h2
  obtain ⟨s0, hw0, _⟩ := h1.ex
  refine ⟨B, fb, db, h7.cell rfl, (dnext_some h1 h3 h4 hj hN).mono ?_⟩
  rintro e w2 ⟨rfl, v, s2, fv, t2⟩
  have t3 : Trn f w w2 := t2.mono fun b _ e => e.elim (fun e => e ▸ fB) (fh b)
  have nk : ∀ (b : Nat) (cs : List Value) (t : TypeId), t ≠ tHp → t ≠ 3 → Blk w b cs t → w2.heap[b]? = w.heap[b]? := fun b cs t n1 n2 hb => t2.block b hb.lt fun e => by
    rcases e with e | e
    · exact hb.ne hw0.box n1 e
    · obtain ⟨c, hc⟩ := own_blk' hw0.heap e
      exact hb.ne hc n2 rfl
  refine ⟨by rw [e1]; rfl, t3, ⟨⟨g, cap, v, T, B, db, mb, fb, j + 1, s2, own_kept h2 (fun b e => by cases e; exact nk _ _ _ (by decide) (by decide) hd), h3, h4, h5, h6, h7.kept (nk _ _ _ (by decide) (by decide) h7), hj, e2, .inl fM, .inl fR, fun b e => .inl (fs b e), fun b e => .inl (fd b e), fun b e => ?_, .inl fg, .inl fB, .inl fdb, .inl fm, .inl ff, .inl fx⟩, .inl h.fX, fun k e => e.elim (fun e => Nat.lt_of_lt_of_le (h.fb k e) t3.size) (fun e => e.2)⟩, nk⟩
  obtain ⟨s3, hw3, _⟩ := s2.ex
  rcases fv b e with e2 | e2
  · exact .inl (fh b e2)
  · obtain ⟨c, hc⟩ := own_blk' hw3.heap e
    exact .inr ⟨e2, hc.lt⟩
theorem UDp.below (h : UDp X S L dv o E most N xb R f w) (hb : Below w.heap.size w w') : UDp X S L dv o E most N xb R (grow f w w') w' := by
  obtain ⟨g, cap, hv, T, B, db, mb, fb, j, h1, h2, h3, h4, h5, h6, h7, h8, h9, fM, fR, fs, fd, fh, fg, fB, fdb, fm, ff, fx⟩ := h.ex
  exact ⟨⟨g, cap, hv, T, B, db, mb, fb, j, h1.below hb, ownK_below h2 hb, h3, h4, h5, h6, h7.kept (hb.block _ h7.lt), h8, h9, .inl fM, .inl fR, fun b e => .inl (fs b e), fun b e => .inl (fd b e), fun b e => .inl (fh b e), .inl fg, .inl fB, .inl fdb, .inl fm, .inl ff, .inl fx⟩, .inl h.fX, fun k e => e.elim (fun e => Nat.lt_of_lt_of_le (h.fb k e) hb.size) (fun e => e.2)⟩
theorem UDp.away (h : UDp X S L dv o E most N xb R f w) (hk : ∀ k, f k → w'.heap[k]? = w.heap[k]?) (hs : w.heap.size ≤ w'.heap.size) : UDp X S L dv o E most N xb R f w' := by
  obtain ⟨g, cap, hv, T, B, db, mb, fb, j, h1, h2, h3, h4, h5, h6, h7, h8, h9, fM, fR, fs, fd, fh, fg, fB, fdb, fm, ff, fx⟩ := h.ex
  obtain ⟨s, hw, hs2⟩ := h1.ex
  exact ⟨⟨g, cap, hv, T, B, db, mb, fb, j, ⟨⟨s, ⟨hw.due.away h.fX fM fR fs fd hk, hw.dbx.kept (hk _ fdb), hw.box.kept (hk _ fB), own_kept hw.heap (fun b e => hk _ (fh b e)), hw.pl, hw.hlen, hw.ok, hw.apart⟩, hs2⟩, h1.mbx.kept (hk _ fm), h1.fbx.kept (hk _ ff), h1.nm⟩, own_kept h2 (fun b e => by cases e; exact hk _ fg), h3, h4, h5, h6, h7.kept (hk _ fx), h8, h9, fM, fR, fs, fd, fh, fg, fB, fdb, fm, ff, fx⟩, h.fX, fun k e => Nat.lt_of_lt_of_le (h.fb k e) hs⟩
theorem UDp.core (h : UDp X S L dv o E most N xb R f w) : ∃ d, UDp X S L dv o E most N xb R d w ∧ (∀ k, d k → f k) ∧ Kinds d w farT := by
  obtain ⟨g, cap, hv, T, B, db, mb, fb, j, h1, h2, h3, h4, h5, h6, h7, h8, h9, fM, fR, fs, fd, fh, fg, fB, fdb, fm, ff, fx⟩ := h.ex
  obtain ⟨s, hw, hs2⟩ := id h1.ex
  obtain ⟨d2, hd2⟩ := own_blk h2
  have hk := hw.due.kinds (T := farT) (by decide) (by decide) (by decide)
  refine ⟨fun k => (k = X ∨ k = L.M ∨ k = L.R ∨ L.sv.ownBlock = some k ∨ dv.ownBlock = some k) ∨ hv.ownBlock = some k ∨ k = g ∨ k = B ∨ k = db ∨ k = mb ∨ k = fb ∨ k = xb,
    ⟨⟨g, cap, hv, T, B, db, mb, fb, j, h1, h2, h3, h4, h5, h6, h7, h8, h9, by simp, by simp, fun b e => by simp [e], fun b e => by simp [e], fun b e => by simp [e], by simp, by simp, by simp, by simp, by simp, by simp⟩, by simp, fun k e => h.fb k ?_⟩, fun k e => ?_, ?_⟩
  · rcases e with (rfl | rfl | rfl | e | e) | e | rfl | rfl | rfl | rfl | rfl | rfl
    all_goals first | exact h.fX | exact fM | exact fR | exact fs _ e | exact fd _ e | exact fh _ e | exact fg | exact fB | exact fdb | exact fm | exact ff | exact fx
  · rcases e with (rfl | rfl | rfl | e | e) | e | rfl | rfl | rfl | rfl | rfl | rfl
    all_goals first | exact h.fX | exact fM | exact fR | exact fs _ e | exact fd _ e | exact fh _ e | exact fg | exact fB | exact fdb | exact fm | exact ff | exact fx
  · rintro k e cs t htm hb
    rcases e with e | e | rfl | rfl | rfl | rfl | rfl | rfl
    · exact hk k e cs t htm hb
    · obtain ⟨c, hc⟩ := own_blk' hw.heap e
      exact hc.ne hb (ne_far htm (by decide)) rfl
    · exact hd2.ne hb (ne_far htm (by decide)) rfl
    · exact hw.box.ne hb (ne_far htm (by decide)) rfl
    · exact hw.dbx.ne hb (ne_far htm (by decide)) rfl
    · exact h1.mbx.ne hb (ne_far htm (by decide)) rfl
    · exact h1.fbx.ne hb (ne_far htm (by decide)) rfl
    · exact h7.ne hb (ne_far htm (by decide)) rfl
theorem DV.core (h : DV X E N f w) : ∃ d, DV X E N d w ∧ (∀ k, d k → f k) ∧ Kinds d w farD := by
  obtain ⟨S, L, hv, wv, o, h1, h2, h3, h4, h5, fM, fR, fs, fh, fw⟩ := h.ex
  have hk := h1.kinds (T := farD) (by decide) (by decide) (by decide)
  refine ⟨fun k => (k = X ∨ k = L.M ∨ k = L.R ∨ L.sv.ownBlock = some k ∨ hv.ownBlock = some k) ∨ wv.ownBlock = some k,
    ⟨⟨S, L, hv, wv, o, h1, h2, h3, h4, h5, by simp, by simp, fun b e => by simp [e], fun b e => by simp [e], fun b e => by simp [e]⟩, by simp, fun k e => h.fb k ?_⟩, fun k e => ?_, ?_⟩
  · rcases e with (rfl | rfl | rfl | e | e) | e
    all_goals first | exact h.fX | exact fM | exact fR | exact fs _ e | exact fh _ e | exact fw _ e
  · rcases e with (rfl | rfl | rfl | e | e) | e
    all_goals first | exact h.fX | exact fM | exact fR | exact fs _ e | exact fh _ e | exact fw _ e
  · rintro k e cs t htm hb
    rcases e with e | e
    · exact hk k e cs t htm hb
    · obtain ⟨c, hc⟩ := own_blk' h5 e
      exact hc.ne hb (ne_far htm (by decide)) rfl
theorem UDp.wide {g : Nat → Prop} (h : UDp X S L dv o E most N xb R f w) (hf : ∀ k, f k → g k) (hg : ∀ k, g k → k < w.heap.size) : UDp X S L dv o E most N xb R g w := by
  obtain ⟨g', cap, hv, T, B, db, mb, fb, j, h1, h2, h3, h4, h5, h6, h7, h8, h9, fM, fR, fs, fd, fh, fg, fB, fdb, fm, ff, fx⟩ := h.ex
  exact ⟨⟨g', cap, hv, T, B, db, mb, fb, j, h1, h2, h3, h4, h5, h6, h7, h8, h9, hf _ fM, hf _ fR, fun b e => hf _ (fs b e), fun b e => hf _ (fd b e), fun b e => hf _ (fh b e), hf _ fg, hf _ fB, hf _ fdb, hf _ fm, hf _ ff, hf _ fx⟩, hf _ h.fX, hg⟩
theorem UD.fix (h : UD X E most N xb R f w) : ∃ S L dv o, UDp X S L dv o E most N xb R f w := by
  obtain ⟨S, L, g, cap, dv, hv, o, T, B, db, mb, fb, j, h1⟩ := h.ex
  exact ⟨S, L, dv, o, ⟨g, cap, hv, T, B, db, mb, fb, j, h1⟩, h.fX, h.fb⟩
theorem UD.wide {X : Nat} {E R : List (Int × Int)} {most : Int} {N xb : Nat} {f g : Nat → Prop} {w : World} (h : UD X E most N xb R f w) (hf : ∀ k, f k → g k) (hg : ∀ k, g k → k < w.heap.size) : UD X E most N xb R g w := by
  obtain ⟨S, L, dv, o, h1⟩ := h.fix
  obtain ⟨h2⟩ := h1.wide hf hg
  obtain ⟨g2, cap, hv, T, B, db, mb, fb, j, h3⟩ := h2
  exact ⟨⟨S, L, g2, cap, dv, hv, o, T, B, db, mb, fb, j, h3⟩, hf _ h.fX, hg⟩
theorem UDp.ud (h : UDp X S L dv o E most N xb R f w) : UD X E most N xb R f w := by
  obtain ⟨g, cap, hv, T, B, db, mb, fb, j, h1⟩ := h.ex
  exact ⟨⟨S, L, g, cap, dv, hv, o, T, B, db, mb, fb, j, h1⟩, h.fX, h.fb⟩
end
end Go.Proofs.Ytchlemajppnehaa

/- The document's own lists: where a number is. -/
set_option maxRecDepth 100000
namespace Go.Proofs.Ytchlemajppnehaa
open Go Go.RowKit Go.Shelf
def encZ (x : Int) : List Value := [.int .i64 x]
theorem encZ_len (x : Int) : (encZ x).length = 1 := rfl
theorem encZ_one (x : Int) : ∀ u ∈ encZ x, u.oneCell' = true := by intro u hu; simp [encZ] at hu; subst hu; rfl
/-- Where one is; -1: nowhere. -/
def plc (k : Int) : List Int → Nat → Int
  | [], _ => -1
  | x :: l, i => if x = k then (i : Int) else plc k l (i + 1)
theorem plc_drop {l : List Int} {k : Int} {i : Nat} (h : i < l.length) : plc k (l.drop i) i = if l[i] = k then (i : Int) else plc k (l.drop (i + 1)) (i + 1) := by
  rw [List.drop_eq_getElem_cons h]; rfl
theorem plc_end {l : List Int} {k : Int} {i : Nat} (h : l.length ≤ i) : plc k (l.drop i) i = -1 := by
  rw [List.drop_eq_nil_of_le h]; rfl
theorem rk_cell {x : Nat → Prop} {ao : Option Addr} {n cap : Nat} {l : List Int} {W : World} (h : RK encZ x (.slice ao n cap) l W) {i : Nat} (hi : i < l.length) : ∃ b off, ao = some ⟨b, off, none⟩ ∧ W.cell? ⟨b, off + i, none⟩ = some (.int .i64 l[i]) := by
  obtain ⟨b, off, e, _, c⟩ := RK.at_ encZ_len h hi (f := 0) (by omega)
  exact ⟨b, off, e, by rw [Nat.mul_one, Nat.add_zero] at c; rw [c]; rfl⟩
end Go.Proofs.Ytchlemajppnehaa

/- The document's own Due: what lies in memory; where, At. -/
set_option maxRecDepth 100000
namespace Go.Proofs.Ytchlemajppnehaa
open Go Go.RowKit Go.Shelf
def encQ (x : Int × Int) : List Value := [.int .i64 x.1, .int .i64 x.2]
theorem encQ_len (x : Int × Int) : (encQ x).length = 2 := rfl
theorem encQ_one (x : Int × Int) : ∀ u ∈ encQ x, u.oneCell' = true := by intro u hu; simp [encQ] at hu; rcases hu with rfl | rfl <;> rfl
theorem rkq_cell {x : Nat → Prop} {ao : Option Addr} {n cap : Nat} {l : List (Int × Int)} {W : World} (h : RK encQ x (.slice ao n cap) l W) {i : Nat} (hi : i < l.length) : ∃ b off, ao = some ⟨b, off, none⟩ ∧ W.cell? ⟨b, off + i * 2, none⟩ = some (.int .i64 l[i].1) ∧ W.cell? ⟨b, off + i * 2 + 1, none⟩ = some (.int .i64 l[i].2) := by
  obtain ⟨b, off, e, _, c⟩ := RK.at_ encQ_len h hi (f := 0) (by omega)
  obtain ⟨b', off', e', _, c'⟩ := RK.at_ encQ_len h hi (f := 1) (by omega)
  rw [e] at e'
  cases e'
  exact ⟨b, off, e, by rw [Nat.add_zero] at c; rw [c]; rfl, by rw [← Nat.add_assoc] at c'; rw [c']; rfl⟩
theorem plq_drop {l : List (Int × Int)} {k : Int} {i : Nat} (h : i < l.length) : plc k ((l.drop i).map (·.1)) i = if l[i].1 = k then (i : Int) else plc k ((l.drop (i + 1)).map (·.1)) (i + 1) := by
  rw [List.drop_eq_getElem_cons h]; rfl
theorem plq_end {l : List (Int × Int)} {k : Int} {i : Nat} (h : l.length ≤ i) : plc k ((l.drop i).map (·.1)) i = -1 := by
  rw [List.drop_eq_nil_of_le h]; rfl
/-- Where one is, by what stands there. -/
theorem plc_some {k : Int} : ∀ {l : List Int} {i : Nat}, k ∈ l → ∃ j, j < l.length ∧ plc k l i = ((i + j : Nat) : Int) ∧ l[j]? = some k ∧ ∀ z, z < j → l[z]? ≠ some k
  | [], _, h => by cases h
  | y :: l, i, h => by
    unfold plc
    by_cases e : y = k
    · subst e
      exact ⟨0, by simp, by rw [if_pos rfl]; rfl, rfl, fun z hz => absurd hz (Nat.not_lt_zero z)⟩
    · rcases List.mem_cons.1 h with e2 | h2
      · exact absurd e2.symm e
      · obtain ⟨j, h1, h3, h4, h5⟩ := plc_some (i := i + 1) h2
        refine ⟨j + 1, by simpa using h1, by rw [if_neg e, h3]; congr 1; omega, by simpa using h4, fun z hz => ?_⟩
        cases z with
        | zero => simp; exact e
        | succ z => rw [List.getElem?_cons_succ]; exact h5 z (by omega)
theorem plc_none {k : Int} : ∀ {l : List Int} {i : Nat}, k ∉ l → plc k l i = -1
  | [], _, _ => rfl
  | y :: l, i, h => by
    unfold plc
    rw [if_neg (fun e => h (by simp [e]))]
    exact plc_none (fun e => h (List.mem_cons_of_mem _ e))
end Go.Proofs.Ytchlemajppnehaa

/- A walk that was parted: what is left lies in a list of its own. -/
set_option maxRecDepth 100000
namespace Go.Proofs.Ytchlemajppnehaa
open Go Go.RowKit Go.Shelf Go.Maps
attribute [local go_sem] Oper.semAt_some
def nfC (lb : Nat) : Value := .func (.func 84) #[] #[.pointer (some ⟨lb, 0, none⟩)]
theorem infoTm : (Try.prog.info? tTm).map (fun i => (i.zero, i.size, i.bytes)) = some (some (.agg #[.int .i64 0, .int .i64 0]), 2, 16) := by kernel_rfl
section
variable {lb : Nat} {v : Value} {y : Nat → Prop} {x : Int × Int} {R : List (Int × Int)} {w : World}
set_option maxHeartbeats 2000000 in
theorem cnext_nil (hB : Blk w lb [v] tLs) (hr : RK encQ y v [] w) :
    Calls Try.prog 84 #[.pointer (some ⟨lb, 0, none⟩)] w fun e w' => e = .returned (.tuple #[.agg #[.int .i64 0, .int .i64 0], .bool false]) ∧ Below w.heap.size w w' := by
  obtain ⟨ao, cap, rfl, _, _⟩ := hr.form
  have b1 : Below w.heap.size w (w.alloc (.cells #[.int .i64 0, .int .i64 0] tTm)) := (Below.refl _ _).alloc (Nat.le_refl _) _
  have c0 := (hB.alloc (.cells #[.int .i64 0, .int .i64 0] tTm)).cell (i := 0) rfl
  have B0 := Blk.new w [.int .i64 0, .int .i64 0] tTm
  have k0 := B0.cell (i := 0) rfl
  have k1 := B0.cell (i := 1) rfl
  have kf := B0.frozen
  go_enter Try.func84, Try.ntmps84
  go_wp2
  refine bodyPost_ret (v := .tuple #[.agg #[.int .i64 0, .int .i64 0], .bool false]) (by simp [results, Try.results84, go_sem, k0, k1]) rfl ⟨rfl, b1⟩
set_option maxHeartbeats 4000000 in
theorem cnext_cons (hB : Blk w lb [v] tLs) (hr : RK encQ y v (x :: R) w) (hy : ∀ k, y k → k < w.heap.size ∧ k ≠ lb) :
    Calls Try.prog 84 #[.pointer (some ⟨lb, 0, none⟩)] w fun e w' => e = .returned (.tuple #[.agg #[.int .i64 x.1, .int .i64 x.2], .bool true]) ∧ ∃ v', Blk w' lb [v'] tLs ∧ RK encQ y v' R w' ∧ Trn (fun b => b = lb) w w' := by
  obtain ⟨ao, cap, rfl, _, _⟩ := hr.form
  have b1 : Below w.heap.size w (w.alloc (.cells #[.int .i64 0, .int .i64 0] tTm)) := (Below.refl _ _).alloc (Nat.le_refl _) _
  obtain ⟨v', hv, hr'⟩ := run_dropK (P := Try.prog) encQ_len Try.underlying114 infoTm hr (m := 1) (by simp)
  have hr' : RK encQ y v' R w := hr'
  obtain ⟨ao', cap', rfl, _, _⟩ := hr'.form
  have ra := hr.below b1
  rw [show ((1 : Nat) : Int) = 1 from rfl] at hv
  obtain ⟨b, off, rfl, hb, c1⟩ := ra.at_ encQ_len (i := 0) (f := 0) (by simp) (by omega)
  obtain ⟨b2, off2, e2, _, c2⟩ := ra.at_ encQ_len (i := 0) (f := 1) (by simp) (by omega)
  cases e2
  have B1 := hB.alloc (.cells #[.int .i64 0, .int .i64 0] tTm)
  have c0 := B1.cell (i := 0) rfl
  have f0 := B1.frozen 0
  have B0 := Blk.new w [.int .i64 0, .int .i64 0] tTm
  have k0 := B0.cell (i := 0) rfl
  have k1 := B0.cell (i := 1) rfl
  have kf := B0.frozen
  obtain ⟨n, hn⟩ : ∃ n, (x :: R).length = n := ⟨_, rfl⟩
  have hn2 : 0 < n := by rw [← hn]; simp
  have hn1 : 1 ≤ n := by rw [← hn]; simp
  have B2 := hB.alloc (.cells #[.int .i64 x.1, .int .i64 x.2] tTm)
  have c3 := B2.cell (i := 0) rfl
  have f3 := B2.frozen 0
  rw [hn] at hv c0 c3
  have d0 : ((n : Int) == 0) = false := by rw [beq_eq_false_iff_ne]; omega
  have i0 : (0 : Int) < (n : Int) := by omega
  simp [encQ] at c1 c2
  go_enter Try.func84, Try.ntmps84
  go_wp2
  have hll := hB.lt
  obtain ⟨u, hu⟩ : ∃ u, Value.slice ao' R.length cap' = u := ⟨_, rfl⟩
  have BL := (hB.set 0 u).alloc (.cells #[.int .i64 x.1, .int .i64 x.2] tTm)
  have BN := Blk.new (w.setCell ⟨lb, 0, none⟩ u) [.int .i64 x.1, .int .i64 x.2] tTm
  have hsz : (w.setCell ⟨lb, 0, none⟩ u).heap.size = w.heap.size := by simp
  rw [hsz] at BN
  have t3 : Trn (fun b => b = lb) w ((w.setCell ⟨lb, 0, none⟩ u).alloc (.cells #[.int .i64 x.1, .int .i64 x.2] tTm)).drew := ((Trn.set1 hB 0 u).trans (Trn.alloc _ _)).trans (Trn.drew _ 1)
  have hk : ∀ k, y k → ((w.setCell ⟨lb, 0, none⟩ u).alloc (.cells #[.int .i64 x.1, .int .i64 x.2] tTm)).drew.heap[k]? = w.heap[k]? := fun k e => t3.block k (hy k e).1 (hy k e).2
  have hrf := hr'.same hk
  rw [hu] at hrf
  have HU := Lib.hid hu
  clear hu
  go_region
  go_wp2
  rw [HU.out]
  generalize hW3 : ((w.setCell ⟨lb, 0, none⟩ u).alloc (.cells #[.int .i64 x.1, .int .i64 x.2] tTm)).drew = W3 at *
  have BN' : Blk W3 w.heap.size [.int .i64 x.1, .int .i64 x.2] tTm := by rw [← hW3]; exact BN
  have BL' : Blk W3 lb [u] tLs := by rw [← hW3]; exact BL
  have j0 := BN'.cell (i := 0) rfl
  have j1 := BN'.cell (i := 1) rfl
  refine bodyPost_ret (v := .tuple #[.agg #[.int .i64 x.1, .int .i64 x.2], .bool true]) (by simp [results, Try.results84, go_sem, j0, j1]) rfl ⟨rfl, u, BL', hrf, t3⟩
end
end Go.Proofs.Ytchlemajppnehaa
