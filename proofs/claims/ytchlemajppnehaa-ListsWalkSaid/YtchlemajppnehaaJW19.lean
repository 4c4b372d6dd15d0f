/- 5 texts put together: Dwd, Dwe, Drun, Dtell, Away. -/
import Derived.Deep.LoopGhost
import Derived.Test.YtchlemajppnehaaJW8
import Derived.Test.YtchlemajppnehaaJW9
import Derived.Test.YtchlemajppnehaaJW18
/- A Due's walk: its making. -/
set_option maxRecDepth 100000
namespace Go.Proofs.Ytchlemajppnehaa
open Go Go.RowKit Go.Shelf Go.Maps
@[go_sem] theorem run_store_nilFunc9 {P : Program} {w : World} {a : Addr} {m : Mode} : (store a .nilFunc m).run P w = stored P w a .nilFunc m := run_store P w a _ m rfl
theorem four_blks (w : World) (a b c d : List Value) (ta tb tc td : TypeId) : ∃ W, W = (((w.alloc (.cells a.toArray ta)).alloc (.cells b.toArray tb)).alloc (.cells c.toArray tc)).alloc (.cells d.toArray td) ∧
    Blk W w.heap.size a ta ∧ Blk W (w.heap.size + 1) b tb ∧ Blk W (w.heap.size + 1 + 1) c tc ∧ Blk W (w.heap.size + 1 + 1 + 1) d td ∧ Below w.heap.size w W := by
  have h1 := (((Blk.new w a ta).alloc (.cells b.toArray tb)).alloc (.cells c.toArray tc)).alloc (.cells d.toArray td)
  have h2 := ((Blk.new (w.alloc (.cells a.toArray ta)) b tb).alloc (.cells c.toArray tc)).alloc (.cells d.toArray td)
  have h3 := (Blk.new ((w.alloc (.cells a.toArray ta)).alloc (.cells b.toArray tb)) c tc).alloc (.cells d.toArray td)
  have h4 := Blk.new (((w.alloc (.cells a.toArray ta)).alloc (.cells b.toArray tb)).alloc (.cells c.toArray tc)) d td
  simp only [World.size_alloc] at h2 h3 h4
  exact ⟨_, rfl, h1, h2, h3, h4, ((((Below.refl _ w).alloc (Nat.le_refl _) _).alloc (by simp) _).alloc (by simp; omega) _).alloc (by simp; omega) _⟩
section
variable {X : Nat} {S : Du.St} {L : TL} {hv wv dv : Value} {w w' : World} {most : Int} {o : List Nat} {N j : Nat}
set_option maxHeartbeats 4000000 in
theorem dsteps_any (h : DueE X S L dv wv w) (hI : Du.InvD S o N) (hN : N < 80000) (_hm : I64 most) :
    Calls Try.prog 53 #[.pointer (some ⟨X, 0, none⟩), .int .i64 most] w fun e w' => ∃ B db mb fb v, e = .returned (.func (.func 75) #[] #[.pointer (some ⟨B, 0, none⟩), .pointer (some ⟨fb, 0, none⟩), .pointer (some ⟨db, 0, none⟩)]) ∧
      (∀ T, WalkE X B db mb fb S L most T wv dv v 0 w') ∧ Below w.heap.size w w' ∧ w.heap.size ≤ B ∧ w.heap.size ≤ db ∧ w.heap.size ≤ mb ∧ w.heap.size ≤ fb ∧ (∀ b, v.ownBlock = some b → w.heap.size ≤ b) := by
  obtain ⟨W4, hW4, k1, k2, k3, k4, hb⟩ := four_blks w [.pointer (some ⟨X, 0, none⟩)] [.int .i64 most] [.slice none 0 0, .func (.func 73) #[] #[.pointer (some ⟨w.heap.size, 0, none⟩)], .nilFunc] [.func (.func 74) #[] #[.pointer (some ⟨w.heap.size, 0, none⟩), .pointer (some ⟨w.heap.size + 1, 0, none⟩), .pointer (some ⟨w.heap.size + 1 + 1, 0, none⟩)]] 33 3 63 46
  have hw := h.below hb
  have hlen := hI.tab.len
  have hbd := hI.tab.bounds
  have hol := hI.llen
  have H : HW X (w.heap.size + 1 + 1) w.heap.size S L wv dv (.slice none 0 0) ⟨[], []⟩ W4 := ⟨hw, k1, k3, ownK_nil _ _ _ _ _, rfl, ⟨by omega, by omega⟩, hI.okl, fun g e => by cases e⟩
  have hwt := dwait_any H k2 (p := 0) (by omega) (fun y hy => by cases hy) (by show 0 + 1 < 100000; omega)
  go_enter Try.func53, Try.ntmps53
  go_wp2_with fail
  rw [show (((w.alloc (.cells #[.pointer (some ⟨X, 0, none⟩)] 33)).alloc (.cells #[.int .i64 most] 3)).alloc (.cells #[.slice none 0 0, .func (.func 73) #[] #[.pointer (some ⟨w.heap.size, 0, none⟩)], .nilFunc] 63)).alloc (.cells #[.func (.func 74) #[] #[.pointer (some ⟨w.heap.size, 0, none⟩), .pointer (some ⟨w.heap.size + 1, 0, none⟩), .pointer (some ⟨w.heap.size + 1 + 1, 0, none⟩)]] 46) = W4 from hW4.symm]
  refine hwt.mono ?_
  rintro e w1 ⟨rfl, v, e1, fv, u1⟩
  go_wp2
  go_ret
  have z4 := hb.size
  have zk := k4.lt
  have t1 : Trn (fun b => w.heap.size ≤ b) w w1 := (Trn.of_below hb).trans (u1.mono (g := grow (fun b => w.heap.size ≤ b) w W4) fun b _ e => e.elim (fun e => .inl (by show w.heap.size ≤ b; omega)) (fun e => by cases e))
  have bw : Below w.heap.size w w1 := t1.below (fun k e => e) (Nat.le_refl _)
  have fvn : ∀ b, v.ownBlock = some b → W4.heap.size ≤ b := fun b e => (fv b e).elim (fun e => by cases e) id
  have K := fun k (hk : k < W4.heap.size) (hB : k ≠ w.heap.size + 1 + 1) => u1.block k hk (fun e => e.elim hB (fun e => by cases e))
  obtain ⟨s', e2, e3, e4⟩ := Du.fr_start (S := S) (most := most)
  rw [← e2] at e1
  exact ⟨_, _, _, _, v, rfl, fun T => ⟨⟨s', e1, by rw [List.take_zero]; exact e3⟩, k2.kept (K _ (by omega) (by omega)), k4.kept (K _ (by omega) (by omega)), fun e => by have := fvn _ e; omega⟩, bw, by omega, by omega, by omega, by omega, fun b e => Nat.le_trans z4 (fvn b e)⟩
end
end Go.Proofs.Ytchlemajppnehaa

/- A Due that is walked: its steps and its end, by what is left to be told. -/
set_option maxRecDepth 100000
namespace Go.Proofs.Ytchlemajppnehaa
open Go Go.RowKit Go.Shelf Go.Maps
attribute [local go_sem] Oper.semAt_some
def nfD (B fb db : Nat) : Value := .func (.func 75) #[] #[.pointer (some ⟨B, 0, none⟩), .pointer (some ⟨fb, 0, none⟩), .pointer (some ⟨db, 0, none⟩)]
theorem infoWk : (Try.prog.info? 92).map (fun i => (i.zero, i.size, i.bytes)) = some (some (.pointer none), 1, 8) := by kernel_rfl
theorem qWalkT (w : World) (a : Nat) : (binOp .eql 92 (.pointer (some ⟨a, 0, none⟩)) (.pointer (some ⟨a, 0, none⟩))).run Try.prog w = .ok (.bool true) w := by
  have h := qEq 9999 Try.underlying92 Try.sizeOf95 w a
  have h : (Op.equal 92 (.pointer (some ⟨a, 0, none⟩)) (.pointer (some ⟨a, 0, none⟩))).run Try.prog w = .ok true w := h
  simp only [binOp]
  simp [h]
section
variable {X : Nat} {S : Du.St} {L : TL} {hv wv dv : Value} {w w' : World} {g cap xb m : Nat}
set_option maxHeartbeats 2000000 in
theorem dend1 (h : DueE X S L hv (.slice (some ⟨g, 0, none⟩) 1 cap) w) (ho : OwnK encW 1 tWk 0 (.slice (some ⟨g, 0, none⟩) 1 cap) [xb] w) :
    CallsDIn Fence.wide m Try.prog 72 #[.pointer (some ⟨X, 7, none⟩), .pointer (some ⟨xb, 0, none⟩)] .returning w fun e u' w' => u' = .returning ∧ e = .returned (.tuple #[]) ∧ DueE X S L hv (.slice (some ⟨g, 0, none⟩) 0 cap) w' ∧
      OwnK encW 1 tWk 0 (.slice (some ⟨g, 0, none⟩) 0 cap) [] w' ∧ Trn (fun b => b = X ∨ b = g) w w' := by
  obtain ⟨_, _, _, _, _, q7, qf⟩ := h.cells
  obtain ⟨bx, ht, _⟩ := h.ex
  obtain ⟨d0, hd0⟩ := own_blk ho
  have hX : X ≠ g := ht.box.ne hd0 (by decide)
  have kk := ownK_cell encW_len ho (j := 0) (i := 0) (by simp) (by omega)
  simp [encW] at kk
  have kf := fun i => World.ownsRow.frozenAt ho i
  have hcap := (own_cap ho).2
  have hX' : ¬ g = X := fun e => hX e.symm
  have qq := qWalkT
  refine callsDIn_of_wp Try.func72 rfl trivial (wpIn_wide.2 ?_) rfl
  simp only [Try.ntmps72, List.size_toArray, List.length_cons, List.length_nil, Nat.reduceAdd, Nat.reduceSub, Array.replicate_succ, Array.replicate_zero, List.push_toArray, List.append_toArray, List.nil_append, List.cons_append]
  go_wp2
  refine wp_loop_rounds 1 ?_
  rw [rounds_succ]
  have hsl := run_take1 Try.underlying65 infoWk g 1 cap 0 (by omega) (by simpa using hcap.1)
  simp only [Int.ofNat_zero] at hsl
  go_wp2
  go_region
  go_wp2
  refine bodyPost_ret (results_none rfl _ _ _) rfl ?_
  have o1 := own_nil_set (own_nil_set (ownK_take encW_len ho 0 (by simp)) 0 (.pointer (some ⟨xb, 0, none⟩))) 0 (.pointer none)
  have t1 : Trn (fun b => b = X ∨ b = g) w (w.setCell ⟨g, 0, none⟩ (.pointer (some ⟨xb, 0, none⟩))) := Trn.set hd0 (.inr rfl) 0 _
  have t2 := t1.trans (Trn.set (f := grow (fun b => b = X ∨ b = g) w _) (hd0.set 0 (.pointer (some ⟨xb, 0, none⟩))) (.inl (.inr rfl)) 0 (.pointer none))
  have e1 := (h.kind (i := 0) (u := .pointer (some ⟨xb, 0, none⟩)) hd0 (by decide) (by decide) (by decide)).kind (i := 0) (u := .pointer none) (hd0.set 0 _) (by decide) (by decide) (by decide)
  obtain ⟨e2, t3⟩ := e1.walks (.slice (some ⟨g, 0, none⟩) 0 cap)
  have t4 := t2.trans (t3.mono fun b _ e => .inl (.inl e))
  exact ⟨rfl, e2.same rfl, own_kept o1 (fun b e => by cases e; exact Below.heap_setCell _ ⟨X, 7, none⟩ _ g hX'), t4.trans (Trn.drew _ 1)⟩
end
/-- A Due that is walked, by the walk in the box xb: R is left to be told. -/
structure UD (X : Nat) (E : List (Int × Int)) (most : Int) (N : Nat) (xb : Nat) (R : List (Int × Int)) (f : Nat → Prop) (W : World) : Prop where
  ex : ∃ S L g cap dv hv o T B db mb fb j, WalkE X B db mb fb S L most T (.slice (some ⟨g, 0, none⟩) 1 cap) dv hv j W ∧ OwnK encW 1 tWk 0 (.slice (some ⟨g, 0, none⟩) 1 cap) [xb] W ∧ Du.InvD S o N ∧ Du.Ordered S most o T ∧ E = o.map (Du.ent S) ∧ L.n ≤ N ∧
    Blk W xb [nfD B fb db] 95 ∧ j ≤ T.length ∧ R = (T.drop j).map (Du.ent S) ∧
    f L.M ∧ f L.R ∧ (∀ b, L.sv.ownBlock = some b → f b) ∧ (∀ b, dv.ownBlock = some b → f b) ∧ (∀ b, hv.ownBlock = some b → f b) ∧ f g ∧ f B ∧ f db ∧ f mb ∧ f fb ∧ f xb
  fX : f X
  fb : ∀ k, f k → k < W.heap.size
section
variable {X : Nat} {E : List (Int × Int)} {most : Int} {N xb m : Nat} {f : Nat → Prop} {w w' : World}
theorem ud_nil (h : UD X E most N xb [] f w) : ∃ B fb db, w.cell? ⟨xb, 0, none⟩ = some (nfD B fb db) ∧
    Calls Try.prog 75 #[.pointer (some ⟨B, 0, none⟩), .pointer (some ⟨fb, 0, none⟩), .pointer (some ⟨db, 0, none⟩)] w fun e w' => e = .returned (.tuple #[.agg #[.int .i64 0, .int .i64 0], .bool false]) ∧ Trn f w w' ∧ UD X E most N xb [] (grow f w w') w' ∧ (∀ (b : Nat) (cs : List Value) (t : TypeId), t ≠ tHp → t ≠ 3 → Blk w b cs t → w'.heap[b]? = w.heap[b]?) := by
  obtain ⟨S, L, g, cap, dv, hv, o, T, B, db, mb, fb, j, h1, h2, h3, h4, h5, h6, h7, h8, h9, fM, fR, fs, fd, fh, fg, fB, fdb, fm, ff, fx⟩ := h.ex
  have hj : j = T.length := by
    have := congrArg List.length h9
    simp only [List.length_nil, List.length_map, List.length_drop] at this
    omega
  subst hj
  refine ⟨B, fb, db, h7.cell rfl, (dnext_end h1 h3 h4).mono ?_⟩
  rintro e w2 ⟨rfl, hb⟩
  exact ⟨rfl, Trn.of_below hb, ⟨⟨S, L, g, cap, dv, hv, o, T, B, db, mb, fb, T.length, h1.below hb, ownK_below h2 hb, h3, h4, h5, h6, h7.kept (hb.block _ h7.lt), h8, h9, .inl fM, .inl fR, fun b e => .inl (fs b e), fun b e => .inl (fd b e), fun b e => .inl (fh b e), .inl fg, .inl fB, .inl fdb, .inl fm, .inl ff, .inl fx⟩, .inl h.fX, fun k e => e.elim (fun e => Nat.lt_of_lt_of_le (h.fb k e) hb.size) (fun e => e.2)⟩, fun b cs t _ _ hk => hb.block b hk.lt⟩
theorem ud_cons {x : Int × Int} {R : List (Int × Int)} (h : UD X E most N xb (x :: R) f w) (hN : N < 80000) : ∃ B fb db, w.cell? ⟨xb, 0, none⟩ = some (nfD B fb db) ∧
    Calls Try.prog 75 #[.pointer (some ⟨B, 0, none⟩), .pointer (some ⟨fb, 0, none⟩), .pointer (some ⟨db, 0, none⟩)] w fun e w' => e = .returned (.tuple #[.agg #[.int .i64 x.1, .int .i64 x.2], .bool true]) ∧ Trn f w w' ∧ UD X E most N xb R (grow f w w') w' ∧ (∀ (b : Nat) (cs : List Value) (t : TypeId), t ≠ tHp → t ≠ 3 → Blk w b cs t → w'.heap[b]? = w.heap[b]?) := by
  obtain ⟨S, L, g, cap, dv, hv, o, T, B, db, mb, fb, j, h1, h2, h3, h4, h5, h6, h7, h8, h9, fM, fR, fs, fd, fh, fg, fB, fdb, fm, ff, fx⟩ := h.ex
  have hj : j < T.length := by
    have := congrArg List.length h9
    simp only [List.length_cons, List.length_map, List.length_drop] at this
    omega
  rw [List.drop_eq_getElem_cons hj, List.map_cons] at h9
  injection h9 with e1 e2
  obtain ⟨d, hd⟩ := own_blk h2
  obtain ⟨s0, hw0, _⟩ := h1.ex
  refine ⟨B, fb, db, h7.cell rfl, (dnext_some h1 h3 h4 hj hN).mono ?_⟩
  rintro e w2 ⟨rfl, v, s2, fv, t2⟩
  have t3 : Trn f w w2 := t2.mono fun b _ e => e.elim (fun e => e ▸ fB) (fh b)
  have nk : ∀ (b : Nat) (cs : List Value) (t : TypeId), t ≠ tHp → t ≠ 3 → Blk w b cs t → w2.heap[b]? = w.heap[b]? := fun b cs t n1 n2 hb => t2.block b hb.lt fun e => by
    rcases e with e | e
    · exact hb.ne hw0.box n1 e
    · obtain ⟨c, hc⟩ := own_blk' hw0.heap e
      exact hb.ne hc n2 rfl
  refine ⟨by rw [e1]; rfl, t3, ⟨⟨S, L, g, cap, dv, v, o, T, B, db, mb, fb, j + 1, s2, own_kept h2 (fun b e => by cases e; exact nk _ _ _ (by decide) (by decide) hd), h3, h4, h5, h6, h7.kept (nk _ _ _ (by decide) (by decide) h7), hj, e2, .inl fM, .inl fR, fun b e => .inl (fs b e), fun b e => .inl (fd b e), fun b e => ?_, .inl fg, .inl fB, .inl fdb, .inl fm, .inl ff, .inl fx⟩, .inl h.fX, fun k e => e.elim (fun e => Nat.lt_of_lt_of_le (h.fb k e) t3.size) (fun e => e.2)⟩, nk⟩
  obtain ⟨s3, hw3, _⟩ := s2.ex
  rcases fv b e with e2 | e2
  · exact .inl (fh b e2)
  · obtain ⟨c, hc⟩ := own_blk' hw3.heap e
    exact .inr ⟨e2, hc.lt⟩
theorem UD.below {R : List (Int × Int)} (h : UD X E most N xb R f w) (hb : Below w.heap.size w w') : UD X E most N xb R (grow f w w') w' := by
  obtain ⟨S, L, g, cap, dv, hv, o, T, B, db, mb, fb, j, h1, h2, h3, h4, h5, h6, h7, h8, h9, fM, fR, fs, fd, fh, fg, fB, fdb, fm, ff, fx⟩ := h.ex
  exact ⟨⟨S, L, g, cap, dv, hv, o, T, B, db, mb, fb, j, h1.below hb, ownK_below h2 hb, h3, h4, h5, h6, h7.kept (hb.block _ h7.lt), h8, h9, .inl fM, .inl fR, fun b e => .inl (fs b e), fun b e => .inl (fd b e), fun b e => .inl (fh b e), .inl fg, .inl fB, .inl fdb, .inl fm, .inl ff, .inl fx⟩, .inl h.fX, fun k e => e.elim (fun e => Nat.lt_of_lt_of_le (h.fb k e) hb.size) (fun e => e.2)⟩
theorem ud_end {R : List (Int × Int)} (h : UD X E most N xb R f w) : CallsDIn Fence.wide m Try.prog 72 #[.pointer (some ⟨X, 7, none⟩), .pointer (some ⟨xb, 0, none⟩)] .returning w fun e u' w' => u' = .returning ∧ e = .returned (.tuple #[]) ∧ Trn f w w' ∧ DV X E N (grow f w w') w' := by
  obtain ⟨S, L, g, cap, dv, hv, o, T, B, db, mb, fb, j, h1, h2, h3, h4, h5, h6, h7, h8, h9, fM, fR, fs, fd, fh, fg, fB, fdb, fm, ff, fx⟩ := h.ex
  obtain ⟨s0, hw0, _⟩ := h1.ex
  refine (dend1 (m := m) hw0.due h2).mono ?_
  rintro e u' w2 ⟨rfl, rfl, e2, o2, t2⟩
  have t3 : Trn f w w2 := t2.mono fun b _ e => e.elim (fun e => e ▸ h.fX) (fun e => e ▸ fg)
  exact ⟨rfl, rfl, t3, ⟨⟨S, L, dv, _, o, e2, h3, h5, h6, o2, .inl fM, .inl fR, fun b e => .inl (fs b e), fun b e => .inl (fd b e), fun b e => by cases e; exact .inl fg⟩, .inl h.fX, fun k e => e.elim (fun e => Nat.lt_of_lt_of_le (h.fb k e) t3.size) (fun e => e.2)⟩⟩
theorem DueE.book {X : Nat} {S : Du.St} {L : TL} {hv wv : Value} {W : World} (h : DueE X S L hv wv W) {l : Nat} {o : Obj} (hl : W.heap[l]? = some o) (hk : isBook o = true) (o' : Obj) : DueE X S L hv wv (W.putObj l o') := by
  obtain ⟨bx, h1, h2⟩ := h.ex
  exact ⟨⟨bx, ⟨h1.box.kept (blk_book h1.box hl hk o'), h1.c0, h1.c1, h1.c2, h1.map.kept (map_book h1.map hl hk o'), own_book h1.rows hl hk o', own_book h1.spare hl hk o', h1.tx⟩, h2⟩, own_book h.heap hl hk o', h.apart⟩
theorem UD.book {R : List (Int × Int)} : BookOk (UD X E most N xb R) := by
  intro f W l o' o2 h hl hk
  obtain ⟨S, L, g, cap, dv, hv, o, T, B, db, mb, fb, j, h1, h2, h3, h4, h5, h6, h7, h8⟩ := h.ex
  obtain ⟨s, hw, hs⟩ := h1.ex
  have hw2 : HW X B db S L (.slice (some ⟨g, 0, none⟩) 1 cap) dv hv s (W.putObj l o2) := ⟨hw.due.book hl hk o2, hw.dbx.kept (blk_book hw.dbx hl hk o2), hw.box.kept (blk_book hw.box hl hk o2), own_book hw.heap hl hk o2, hw.pl, hw.hlen, hw.ok, hw.apart⟩
  exact ⟨⟨S, L, g, cap, dv, hv, o, T, B, db, mb, fb, j, ⟨⟨s, hw2, hs⟩, h1.mbx.kept (blk_book h1.mbx hl hk o2), h1.fbx.kept (blk_book h1.fbx hl hk o2), h1.nm⟩, own_book h2 hl hk o2, h3, h4, h5, h6, h7.kept (blk_book h7 hl hk o2), h8⟩, h.fX, fun k e => by have := h.fb k e; simpa [World.putObj] using this⟩
theorem DV.book : BookOk (DV X E N) := by
  intro f W l o' o2 h hl hk
  obtain ⟨S, L, hv, wv, o, h1, h2, h3, h4, h5, h6⟩ := h.ex
  exact ⟨⟨S, L, hv, wv, o, h1.book hl hk o2, h2, h3, h4, own_book h5 hl hk o2, h6⟩, h.fX, fun k e => by have := h.fb k e; simpa [World.putObj] using this⟩
end
end Go.Proofs.Ytchlemajppnehaa

/- A Due's walk: the run. -/
set_option maxRecDepth 100000
namespace Go.Proofs.Ytchlemajppnehaa
open Go Go.RowKit Go.Shelf Go.Maps
attribute [local go_sem] Oper.semAt_some
def encT (x : Int × Int) : Value := .agg #[.int .i64 x.1, .int .i64 x.2]
/-- At the head of the run's loop: n are left, the one in hand with them. -/
def RunD (X : Nat) (E T0 : List (Int × Int)) (most : Int) (N xb : Nat) (C : List (Int × Int) → (Nat → Prop) → World → Prop) (n : Nat) (v : Value) (ok : Value) (wr : World) : Prop :=
  ∃ pre f vb, v = .pointer (some ⟨vb, 0, none⟩) ∧ C pre f wr ∧ ((∃ x R, pre ++ x :: R = T0 ∧ n = R.length + 1 ∧ Blk wr vb [.int .i64 x.1, .int .i64 x.2] 69 ∧ ok = .bool true ∧ UD X E most N xb R f wr) ∨ (pre = T0 ∧ n = 0 ∧ ok = .bool false ∧ (∃ cs, Blk wr vb cs 69) ∧ UD X E most N xb [] f wr))
/-- What an append to the list of walks leaves. -/
theorem drun_made {X : Nat} {S : Du.St} {L : TL} {ao : Option Addr} {cap g B db mb fb xb j : Nat} {most : Int} {T : List Nat} {dv hv : Value} {W1 w1 : World} {ob : Obj} {cs : List Value} (hg : (W1.alloc ob).grownBy w1 (Value.slice ao 0 cap).ownBlock)
    (hl : (Value.slice ao 0 cap).ownBlock = some g ∨ g = (W1.alloc ob).heap.size) (h1 : WalkE X B db mb fb S L most T (.slice ao 0 cap) dv hv j W1) (h2 : OwnK encW 1 tWk 0 (.slice ao 0 cap) [] W1) (h3 : Blk W1 xb cs 95) :
    WalkE X B db mb fb S L most T (.slice ao 0 cap) dv hv j w1 ∧ Blk w1 xb cs 95 ∧ ((Value.slice ao 0 cap).ownBlock = some g ∨ W1.heap.size ≤ g) ∧ X ≠ g ∧ (∀ k, k < W1.heap.size → (Value.slice ao 0 cap).ownBlock ≠ some k → w1.heap[k]? = W1.heap[k]?) := by
  have hsz : (W1.alloc ob).heap.size = W1.heap.size + 1 := by simp
  have hgg : (Value.slice ao 0 cap).ownBlock = some g ∨ W1.heap.size ≤ g := hl.imp id (fun e => by omega)
  have hb : ∀ k, k < W1.heap.size → (Value.slice ao 0 cap).ownBlock ≠ some k → w1.heap[k]? = W1.heap[k]? := fun k hk hne =>
    (hg.block k (by omega) (fun e => hne e.symm)).trans (Below.heap_alloc W1 ob k hk)
  obtain ⟨s, hw, hs⟩ := h1.ex
  obtain ⟨bx, ht, hx⟩ := hw.due.ex
  obtain ⟨c, hc⟩ := own_blk ht.rows
  have keep : ∀ (k : Nat) (l : List Value) (t : TypeId), t ≠ tWk → Blk W1 k l t → w1.heap[k]? = W1.heap[k]? := fun k l t htt hk => hb k hk.lt (fun e => by
    obtain ⟨d, hd⟩ := own_blk' h2 e
    exact hk.ne hd htt rfl)
  have kint : ∀ (v : Value) (l : List Nat), OwnK encI1 1 3 0 v l W1 → OwnK encI1 1 3 0 v l w1 := fun v l ho => own_kept ho fun b e => by
    obtain ⟨d, hd⟩ := own_blk' ho e
    exact keep _ _ _ (by decide) hd
  have hd1 : DueE X S L dv (.slice ao 0 cap) w1 := ⟨⟨bx, ⟨ht.box.kept (keep _ _ _ (by decide) ht.box), ht.c0, ht.c1, ht.c2, ht.map.kept (hb _ ht.map.lt fun e => by
      obtain ⟨d, hd⟩ := own_blk' h2 e
      exact ht.map.ne hd rfl), own_kept ht.rows (fun b e => by cases e; exact keep _ _ _ (by decide) hc), kint _ _ ht.spare, ht.tx⟩, hx⟩, kint _ _ hw.due.heap, hw.due.apart⟩
  refine ⟨⟨⟨s, ⟨hd1, hw.dbx.kept (keep _ _ _ (by decide) hw.dbx), hw.box.kept (keep _ _ _ (by decide) hw.box), kint _ _ hw.heap, hw.pl, hw.hlen, hw.ok, hw.apart⟩, hs⟩, h1.mbx.kept (keep _ _ _ (by decide) h1.mbx), h1.fbx.kept (keep _ _ _ (by decide) h1.fbx), h1.nm⟩, h3.kept (keep _ _ _ (by decide) h3), hgg, fun e => ?_, hb⟩
  rcases hgg with h | h
  · obtain ⟨d, hd⟩ := own_blk' h2 h
    exact ht.box.ne hd (by decide) e
  · have := ht.box.lt; omega
theorem drun_begin {X : Nat} {E : List (Int × Int)} {most : Int} {N : Nat} {S : Du.St} {L : TL} {ao : Option Addr} {cap g cp xb B db mb fb : Nat} {o T : List Nat} {dv hv : Value} {W W1 w1 : World} {f : Nat → Prop} (h1 : WalkE X B db mb fb S L most T (.slice ao 0 cap) dv hv 0 w1) (ho : OwnK encW 1 tWk 0 (.slice (some ⟨g, 0, none⟩) 1 cp) [xb] w1)
    (h3 : Blk w1 xb [nfD B fb db] 95) (hgg : (Value.slice ao 0 cap).ownBlock = some g ∨ W1.heap.size ≤ g) (hXg : X ≠ g) (hk : ∀ k, k < W1.heap.size → (Value.slice ao 0 cap).ownBlock ≠ some k → w1.heap[k]? = W1.heap[k]?)
    (h2 : OwnK encW 1 tWk 0 (.slice ao 0 cap) [] W) (hb : Below W.heap.size W W1) (hT : W1.os = w1.os ∧ W1.tape = w1.tape ∧ W1.output = w1.output ∧ W1.heap.size ≤ w1.heap.size) (hxb : W.heap.size ≤ xb) (hI : Du.InvD S o N) (hO : Du.Ordered S most o T) (hP : E = o.map (Du.ent S)) (hn : L.n ≤ N)
    (fX : f X) (fM : f L.M) (fR : f L.R) (fs : ∀ b, L.sv.ownBlock = some b → f b) (fd : ∀ b, dv.ownBlock = some b → f b) (fh : ∀ b, hv.ownBlock = some b → f b) (fg : ∀ b, (Value.slice ao 0 cap).ownBlock = some b → f b) (fB : f B) (fdb : f db) (fm : f mb) (ff : f fb) (fb' : ∀ k, f k → k < W.heap.size) :
    Trn f W (w1.setCell ⟨X, 7, none⟩ (.slice (some ⟨g, 0, none⟩) 1 cp)) ∧ UD X E most N xb (T.map (Du.ent S)) (grow f W (w1.setCell ⟨X, 7, none⟩ (.slice (some ⟨g, 0, none⟩) 1 cp))) (w1.setCell ⟨X, 7, none⟩ (.slice (some ⟨g, 0, none⟩) 1 cp)) := by
  have hbs := hb.size
  have h1s := hT.2.2.2
  obtain ⟨s, hw, hs0⟩ := h1.ex
  obtain ⟨bx, ht, _⟩ := hw.due.ex
  obtain ⟨d, hd⟩ := own_blk ho
  have t0 : Trn f W w1 := ⟨hT.1.symm.trans hb.os, hT.2.1.symm.trans hb.tape, hT.2.2.1.symm.trans hb.output, by omega, fun k hkl hnf => (hk k (by omega) (fun e => hnf (fg k e))).trans (hb.block k hkl), fun k o ho hbk => by
    have hkl : k < W.heap.size := (Array.getElem?_eq_some_iff.1 ho).1
    refine ((hk k (by omega) (fun e => ?_)).trans (hb.block k hkl)).trans ho
    obtain ⟨d2, hd2⟩ := own_blk' h2 e
    rw [show W.heap[k]? = _ from hd2] at ho
    cases ho
    cases hbk⟩
  obtain ⟨e2, t2⟩ := hw.due.walks (.slice (some ⟨g, 0, none⟩) 1 cp)
  have t3 := t0.trans (t2.mono (g := grow f W w1) fun b _ e => .inl (e ▸ fX))
  have hs := fun b (hb : b ≠ X) => Below.heap_setCell w1 ⟨X, 7, none⟩ (.slice (some ⟨g, 0, none⟩) 1 cp) b hb
  have nX : ∀ b cs t, t ≠ tDue → Blk w1 b cs t → b ≠ X := fun b cs t htt hbb e => by subst e; exact hbb.ne ht.box htt rfl
  have hsz := t2.size
  have gr : ∀ k, f k → grow f W (w1.setCell ⟨X, 7, none⟩ (.slice (some ⟨g, 0, none⟩) 1 cp)) k := fun k e => .inl e
  refine ⟨t3, ⟨⟨S, L, g, cp, dv, hv, o, T, B, db, mb, fb, 0, ⟨⟨s, ⟨e2, hw.dbx.kept (hs _ (nX _ _ _ (by decide) hw.dbx)), hw.box.kept (hs _ (nX _ _ _ (by decide) hw.box)), own_kept hw.heap (fun b e => ?_), hw.pl, hw.hlen, hw.ok, hw.apart⟩, hs0⟩, h1.mbx.kept (hs _ (nX _ _ _ (by decide) h1.mbx)), h1.fbx.kept (hs _ (nX _ _ _ (by decide) h1.fbx)), h1.nm⟩, own_kept ho (fun b e => by cases e; exact hs _ (Ne.symm hXg)), hI, hO, hP, hn, h3.kept (hs _ (nX _ _ _ (by decide) h3)), Nat.zero_le _, by rw [List.drop_zero],
    gr _ fM, gr _ fR, fun b e => gr _ (fs b e), fun b e => gr _ (fd b e), fun b e => gr _ (fh b e), ?_, gr _ fB, gr _ fdb, gr _ fm, gr _ ff, .inr ⟨hxb, by have := h3.lt; omega⟩⟩, .inl fX, fun k e => ?_⟩⟩
  · obtain ⟨c, hc⟩ := own_blk' hw.heap e
    exact hs _ (nX _ _ _ (by decide) hc)
  · rcases hgg with e | e
    · exact .inl (fg g e)
    · exact .inr ⟨by omega, by have := hd.lt; omega⟩
  · rcases e with e | e
    · exact Nat.lt_of_lt_of_le (fb' k e) t3.size
    · exact e.2
end Go.Proofs.Ytchlemajppnehaa

/- A Due's walk: what is told to the loop. -/
set_option maxRecDepth 100000
namespace Go.Proofs.Ytchlemajppnehaa
open Go Go.RowKit Go.Shelf Go.Maps
attribute [local go_sem] Oper.semAt_some
def encP (x : Int × Int) : Array Value := #[.int .i64 x.1, .int .i64 x.2]
/-- A Due that is walked, with the run's own boxes: the loop's function, and the one in hand. -/
structure UDx (X : Nat) (E : List (Int × Int)) (most : Int) (N xb yb l : Nat) (vb : Option Nat) (R : List (Int × Int)) (f : Nat → Prop) (W : World) : Prop where
  ud : UD X E most N xb R f W
  v : ∀ k, vb = some k → (∃ a b, Blk W k [.int .i64 a, .int .i64 b] 69) ∧ f k
  y : Blk W yb [.func (.yield l) #[] #[]] 27 ∧ f yb
section
variable {X : Nat} {E : List (Int × Int)} {most : Int} {N xb yb l m : Nat} {vb : Option Nat} {R : List (Int × Int)} {f : Nat → Prop} {w w' : World}
theorem UDx.below (h : UDx X E most N xb yb l vb R f w) (hb : Below w.heap.size w w') : UDx X E most N xb yb l vb R (grow f w w') w' := by
  exact ⟨h.ud.below hb, fun k e => by
    obtain ⟨⟨a, b, hv⟩, fv⟩ := h.v k e
    exact ⟨⟨a, b, hv.kept (hb.block _ hv.lt)⟩, .inl fv⟩, h.y.1.kept (hb.block _ h.y.1.lt), .inl h.y.2⟩
theorem UDx.book : BookOk (UDx X E most N xb yb l vb R) := by
  intro f W k o o' h hl hk
  exact ⟨UD.book _ _ _ _ _ h.ud hl hk, fun k e => by
    obtain ⟨⟨a, b, hv⟩, fv⟩ := h.v k e
    exact ⟨⟨a, b, hv.kept (blk_book hv hl hk o')⟩, fv⟩, h.y.1.kept (blk_book h.y.1 hl hk o'), h.y.2⟩
set_option maxHeartbeats 2000000 in
theorem dtell (hm : 1 ≤ m) {x : Int × Int} {C : (Nat → Prop) → World → Prop} {Post : Ending → World → Prop} (hU : UDx X E most N xb yb l vb R f w) (hC : C f w) (hCm : ∀ s s' W W', C s W → MvL s W s' W' → C s' W')
    (hY : ∀ s W1, UDx X E most N xb yb l vb R s W1 → C s W1 → YieldAt Fence.wide (m - 1) Try.prog l (encP x) W1 Post) (hP : ∀ e W', Post e W' → ∃ b, e = .returned (.bool b)) :
    CallsIn Fence.wide m Try.prog 54 #[encT x, .pointer (some ⟨yb, 0, none⟩)] w Post := by
  have hb : Below w.heap.size w (w.alloc (.cells #[.int .i64 x.1, .int .i64 x.2] 69)) := (Below.refl _ _).alloc (Nat.le_refl _) _
  have hU1 := hU.below hb
  have hC1 := hCm _ _ _ _ hC (mvL (Trn.of_below (f := f) hb))
  have y0 := hU1.y.1.cell (i := 0) rfl
  obtain ⟨fn, tmps, assign, body, hy, hR⟩ := hY _ _ hU1 hC1
  unfold encP at hy
  unfold encT
  refine callsIn_of_wp Try.func54 rfl trivial ?_ rfl
  simp only [Try.ntmps54, List.size_toArray, List.length_cons, List.length_nil, Nat.reduceAdd, Nat.reduceSub, Array.replicate_succ, Array.replicate_zero, List.push_toArray, List.append_toArray, List.nil_append, List.cons_append]
  have B0 := Blk.new w [.int .i64 x.1, .int .i64 x.2] 69
  have k0 := B0.cell (i := 0) rfl
  have k1 := B0.cell (i := 1) rfl
  gi_wp2_with fail
  refine hR.mono ?_
  intro e W' hp
  obtain ⟨b, rfl⟩ := hP e W' hp
  gi_wp2_with fail
  exact hp
end
end Go.Proofs.Ytchlemajppnehaa

/- What lies elsewhere may be changed: an LRU, a Due, and one that is walked, stay. -/
set_option maxRecDepth 100000
namespace Go.Proofs.Ytchlemajppnehaa
open Go Go.RowKit Go.Shelf Go.Maps
section
variable {X : Nat} {wv hv : Value} {L : TL} {f : Nat → Prop} {w w' : World} {N : Nat}
theorem LruE.away {S : Lr.St} (h : LruE X S L wv w) (fX : f X) (fM : f L.M) (fR : f L.R) (fs : ∀ g, L.sv.ownBlock = some g → f g) (hk : ∀ k, f k → w'.heap[k]? = w.heap[k]?) : LruE X S L wv w' := by
  obtain ⟨bx, h1, h2⟩ := h.ex
  exact ⟨bx, ⟨h1.box.kept (hk _ fX), h1.c0, h1.c1, h1.c2, h1.map.kept (hk _ fM), own_kept h1.rows (fun g e => by cases e; exact hk _ fR), own_kept h1.spare (fun g e => hk _ (fs g e)), h1.tx⟩, h2⟩
theorem DueE.away {S : Du.St} (h : DueE X S L hv wv w) (fX : f X) (fM : f L.M) (fR : f L.R) (fs : ∀ g, L.sv.ownBlock = some g → f g) (fh : ∀ g, hv.ownBlock = some g → f g) (hk : ∀ k, f k → w'.heap[k]? = w.heap[k]?) : DueE X S L hv wv w' := by
  obtain ⟨bx, h1, h2⟩ := h.ex
  exact ⟨⟨bx, ⟨h1.box.kept (hk _ fX), h1.c0, h1.c1, h1.c2, h1.map.kept (hk _ fM), own_kept h1.rows (fun g e => by cases e; exact hk _ fR), own_kept h1.spare (fun g e => hk _ (fs g e)), h1.tx⟩, h2⟩, own_kept h.heap (fun g e => hk _ (fh g e)), h.apart⟩
theorem LV.away {most : Int} {P Q : List Int} (h : LV X most P Q N f w) (hk : ∀ k, f k → w'.heap[k]? = w.heap[k]?) (hs : w.heap.size ≤ w'.heap.size) : LV X most P Q N f w' := by
  obtain ⟨S, L, wv, p, q, h1, h2, h3, h4, h5, h6, h7, h8, h9, h10, h11, h12⟩ := h.ex
  exact ⟨⟨S, L, wv, p, q, h1.away h.fX h9 h10 h11 hk, h2, h3, h4, h5, h6, h7, own_kept h8 (fun g e => hk _ (h12 g e)), h9, h10, h11, h12⟩, h.fX, fun k e => Nat.lt_of_lt_of_le (h.fb k e) hs⟩
theorem UL.away {most : Int} {P Q R : List Int} {xb : Nat} (h : UL X most P Q N xb R f w) (hk : ∀ k, f k → w'.heap[k]? = w.heap[k]?) (hs : w.heap.size ≤ w'.heap.size) : UL X most P Q N xb R f w' := by
  obtain ⟨S, L, g, cap, p, q, lb, cb, ab, j, h1, h2, h3, h4, h5, h6, h7, h8, h9, h10, h11, h12, fM, fR, fs, fg, fl, fc, fa, fx⟩ := h.ex
  exact ⟨⟨S, L, g, cap, p, q, lb, cb, ab, j, h1.away h.fX fM fR (fun b e => (fs b e).1) hk, own_kept h2 (fun b e => by cases e; exact hk _ fg), h3, h4, h5, h6, h7, h8, ⟨h9.left.kept (hk _ fl), h9.at_.kept (hk _ fa), h9.box.kept (hk _ fc), h9.ne⟩, h10.kept (hk _ fx), h11, h12, fM, fR, fs, fg, fl, fc, fa, fx⟩, h.fX, fun k e => Nat.lt_of_lt_of_le (h.fb k e) hs⟩
theorem LV.len_le {most : Int} {P Q : List Int} (h : LV X most P Q N f w) : P.length + Q.length ≤ N := by
  obtain ⟨S, L, wv, p, q, h1, h2, h3, rfl, rfl, h6⟩ := h.ex
  have := h2.bounds
  have := h2.len
  simp only [List.length_map, List.length_nil] at *
  omega
theorem DV.away {E : List (Int × Int)} (h : DV X E N f w) (hk : ∀ k, f k → w'.heap[k]? = w.heap[k]?) (hs : w.heap.size ≤ w'.heap.size) : DV X E N f w' := by
  obtain ⟨S, L, hv, wv, o, h1, h2, h3, h4, h5, fM, fR, fs, fh, fw⟩ := h.ex
  exact ⟨⟨S, L, hv, wv, o, h1.away h.fX fM fR fs fh hk, h2, h3, h4, own_kept h5 (fun g e => hk _ (fw g e)), fM, fR, fs, fh, fw⟩, h.fX, fun k e => Nat.lt_of_lt_of_le (h.fb k e) hs⟩
theorem DV.len_le {E : List (Int × Int)} (h : DV X E N f w) : E.length ≤ N := by
  obtain ⟨S, L, hv, wv, o, h1, h2, rfl, h6⟩ := h.ex
  have := h2.tab.bounds
  have := h2.tab.len
  simp only [List.length_map] at *
  omega
theorem UD.away {E R : List (Int × Int)} {most : Int} {xb : Nat} (h : UD X E most N xb R f w) (hk : ∀ k, f k → w'.heap[k]? = w.heap[k]?) (hs : w.heap.size ≤ w'.heap.size) : UD X E most N xb R f w' := by
  obtain ⟨S, L, g, cap, dv, hv, o, T, B, db, mb, fb, j, h1, h2, h3, h4, h5, h6, h7, h8, h9, fM, fR, fs, fd, fh, fg, fB, fdb, fm, ff, fx⟩ := h.ex
  obtain ⟨s, hw, hs2⟩ := h1.ex
  exact ⟨⟨S, L, g, cap, dv, hv, o, T, B, db, mb, fb, j, ⟨⟨s, ⟨hw.due.away h.fX fM fR fs fd hk, hw.dbx.kept (hk _ fdb), hw.box.kept (hk _ fB), own_kept hw.heap (fun b e => hk _ (fh b e)), hw.pl, hw.hlen, hw.ok, hw.apart⟩, hs2⟩, h1.mbx.kept (hk _ fm), h1.fbx.kept (hk _ ff), h1.nm⟩, own_kept h2 (fun b e => by cases e; exact hk _ fg), h3, h4, h5, h6, h7.kept (hk _ fx), h8, h9, fM, fR, fs, fd, fh, fg, fB, fdb, fm, ff, fx⟩, h.fX, fun k e => Nat.lt_of_lt_of_le (h.fb k e) hs⟩
theorem UDx.away {E R : List (Int × Int)} {most : Int} {xb yb l : Nat} {vb : Option Nat} (h : UDx X E most N xb yb l vb R f w) (hk : ∀ k, f k → w'.heap[k]? = w.heap[k]?) (hs : w.heap.size ≤ w'.heap.size) : UDx X E most N xb yb l vb R f w' :=
  ⟨h.ud.away hk hs, fun k e => by
    obtain ⟨⟨a, b, hv⟩, fv⟩ := h.v k e
    exact ⟨⟨a, b, hv.kept (hk _ fv)⟩, fv⟩, h.y.1.kept (hk _ h.y.2), h.y.2⟩
end
end Go.Proofs.Ytchlemajppnehaa
