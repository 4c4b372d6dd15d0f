/- 4 texts put together: Dub, Duc, LnewT, Dun. -/
import Derived.Test.YtchlemajppnehaaJW9
import Derived.Test.YtchlemajppnehaaJW13
/- A Due's calls: At, Len, Drop. -/
set_option maxRecDepth 100000
namespace Go.Proofs.Ytchlemajppnehaa
open Go Go.RowKit Go.Shelf Go.Maps
section
variable {X : Nat} {S : Du.St} {L : TL} {hv wv : Value} {w w' : World} {o : List Nat} {E : List (Int × Int)} {N : Nat} {f : Nat → Prop}
theorem DueE.hd (h : DueE X S L hv wv w) (hl : S.T.rows.length < 100000) : HD X S L wv hv S.sp w := by
  refine ⟨?_, by show (S.T.rows.map _).length = _; simp, hl⟩
  have := S.at_sp
  show DueE X (S.at_ S.sp) L hv wv w
  rw [this]
  exact h
theorem Du.InvD.okl (h : Du.InvD S o N) : ∀ y ∈ S.sp.l, y < S.T.rows.length := fun y hy => by
  obtain ⟨p, hp, e⟩ := List.mem_iff_getElem.1 hy
  have hm : y ∈ o := (h.heap.rng y).1 ⟨p, hp, by show S.sp.l.getD p 0 = y; rw [List.getD_eq_getElem?_getD, List.getElem?_eq_getElem hp]; exact e⟩
  exact h.tab.lt y (by simp [hm])
theorem Du.InvD.llen (h : Du.InvD S o N) : S.l.length = o.length := Du.is_len h.heap h.nodup
theorem Du.InvD.erased (h : Du.InvD S o N) {x : Nat} (hx : x ∈ o) : (o.erase x).map (Du.ent S) = (o.map (Du.ent S)).filter (fun e => e.1 != (Lr.rat S.T.rows x).k) := by
  rw [h.nodup.erase_eq_filter, List.filter_map]
  congr 1
  refine List.filter_congr fun i hi => ?_
  show (i != x) = ((Lr.rat S.T.rows i).k != (Lr.rat S.T.rows x).k)
  by_cases e : i = x
  · rw [e, bne_self_eq_false, bne_self_eq_false]
  · have : (Lr.rat S.T.rows i).k ≠ (Lr.rat S.T.rows x).k := fun e2 => by
      have e1 := (h.tab.g (Lr.rat S.T.rows x).k x).2 ⟨hx, rfl⟩
      have e3 := (h.tab.g (Lr.rat S.T.rows x).k i).2 ⟨hi, e2⟩
      rw [e1] at e3
      cases e3
      exact e rfl
    rw [(bne_iff_ne).2 e, (bne_iff_ne).2 this]
/-- Who is there: the index. -/
theorem Du.InvD.index (h : Du.InvD S o N) {k : Int} (hm : k ∈ (o.map (Du.ent S)).map (·.1)) : ∃ x, x ∈ o ∧ S.T.g k = some x ∧ (Lr.rat S.T.rows x).k = k := by
  obtain ⟨x, hx⟩ := Option.isSome_iff_exists.1 ((h.mem_iff k).2 hm)
  have := (h.tab.g k x).1 hx
  exact ⟨x, this.1, hx, this.2⟩
theorem Du.InvD.none (h : Du.InvD S o N) {k : Int} (hm : k ∉ (o.map (Du.ent S)).map (·.1)) : S.T.g k = none := by
  cases e : S.T.g k with
  | none => rfl
  | some x => exact absurd ((h.mem_iff k).1 (by rw [e]; rfl)) hm
set_option maxHeartbeats 1000000 in
theorem dlen_any (h : DV X E N f w) :
    Calls Try.prog 39 #[.pointer (some ⟨X, 0, none⟩)] w fun e w' => e = .returned (.int .i64 (E.length : Int)) ∧ w = w' := by
  obtain ⟨S, L, hv, wv, o, h1, h2, rfl, _⟩ := h.ex
  obtain ⟨ao, cap, hvv, _⟩ := ownK_form h1.heap
  obtain ⟨_, _, q4, _⟩ := h1.cells
  rw [hvv] at q4
  have qq := qDue
  rw [List.length_map, ← h2.llen]
  go_enter Try.func39, Try.ntmps39
  go_wp2
  go_ret
  exact ⟨rfl, rfl⟩
/-- When one is. -/
def atOf (E : List (Int × Int)) (k : Int) : Option Int := (E.find? (fun e => e.1 == k)).map (·.2)
theorem Du.InvD.atOf (h : Du.InvD S o N) {x : Nat} (hx : x ∈ o) : atOf (o.map (Du.ent S)) (Lr.rat S.T.rows x).k = some (Lr.rat S.T.rows x).a := by
  unfold Proofs.Ytchlemajppnehaa.atOf
  rw [List.find?_map]
  have hex : (o.find? ((fun e : Int × Int => e.1 == (Lr.rat S.T.rows x).k) ∘ Du.ent S)) = some x := by
    cases e : o.find? ((fun e : Int × Int => e.1 == (Lr.rat S.T.rows x).k) ∘ Du.ent S) with
    | none => exact absurd (List.find?_eq_none.1 e x hx) (by simp [Du.ent])
    | some y =>
      have h1 := List.find?_some e
      have h2 := List.mem_of_find?_eq_some e
      have h3 : (Lr.rat S.T.rows y).k = (Lr.rat S.T.rows x).k := by simpa [Du.ent] using h1
      have e1 := (h.tab.g (Lr.rat S.T.rows x).k x).2 ⟨hx, rfl⟩
      have e3 := (h.tab.g (Lr.rat S.T.rows x).k y).2 ⟨h2, h3⟩
      rw [e1] at e3
      cases e3
      rfl
  rw [hex]
  rfl
theorem atOf_none {E : List (Int × Int)} {k : Int} (hm : k ∉ E.map (·.1)) : atOf E k = none := by
  unfold atOf
  rw [Option.map_eq_none_iff, List.find?_eq_none]
  intro e he h
  exact hm (List.mem_map.2 ⟨e, he, by simpa using h⟩)
set_option maxHeartbeats 1000000 in
theorem dat_any (h : DV X E N f w) {k : Int} (hk : I64 k) :
    Calls Try.prog 35 #[.pointer (some ⟨X, 0, none⟩), .int .i64 k] w fun e w' => e = .returned (.tuple #[.int .i64 ((atOf E k).getD 0), .bool (atOf E k).isSome]) ∧ Below w.heap.size w w' := by
  obtain ⟨S, L, hv, wv, o, h1, h2, rfl, _⟩ := h.ex
  by_cases hm : k ∈ (o.map (Du.ent S)).map (·.1)
  · obtain ⟨x, hx, hg, rfl⟩ := h2.index hm
    have hxl : x < S.T.rows.length := h2.tab.lt x (by simp [hx])
    rw [h2.atOf hx]
    go_enter Try.func35, Try.ntmps35
    go_wp2_with fail
    refine (dfind_any h1 hk).mono ?_
    rintro e w1 ⟨rfl, b1⟩
    rw [hg]
    have h1 := h1.below b1
    obtain ⟨_, r1, _, _, rf⟩ := h1.row hxl
    go_wp2_with (go_at_call 48; refine (dterm_any h1 hxl).mono ?_; rintro e w2 ⟨rfl, rfl⟩)
    go_ret2
    exact ⟨rfl, b1⟩
  · rw [atOf_none hm]
    have hg := h2.none hm
    go_enter Try.func35, Try.ntmps35
    go_wp2_with fail
    refine (dfind_any h1 hk).mono ?_
    rintro e w1 ⟨rfl, b1⟩
    rw [hg]
    go_wp2
    go_ret2
    exact ⟨rfl, b1⟩
set_option maxHeartbeats 1000000 in
theorem ddrop_no (h : DV X E N f w) {k : Int} (hk : I64 k) (hm : k ∉ E.map (·.1)) :
    Calls Try.prog 26 #[.pointer (some ⟨X, 0, none⟩), .int .i64 k] w fun e w' => e = .returned (.bool false) ∧ Below w.heap.size w w' := by
  obtain ⟨S, L, hv, wv, o, h1, h2, rfl, _⟩ := h.ex
  have hg := h2.none hm
  go_enter Try.func26, Try.ntmps26
  go_wp2_with fail
  refine (dfind_any h1 hk).mono ?_
  rintro e w1 ⟨rfl, b1⟩
  rw [hg]
  go_wp2
  go_ret
  exact ⟨rfl, b1⟩
set_option maxHeartbeats 4000000 in
theorem ddrop_has (h : DV X E N f w) {k : Int} (hk : I64 k) (hm : k ∈ E.map (·.1)) (hN : N < 80000) :
    Calls Try.prog 26 #[.pointer (some ⟨X, 0, none⟩), .int .i64 k] w fun e w' => e = .returned (.bool true) ∧ Trn f w w' ∧ DV X (E.filter (fun e => e.1 != k)) (N + 1) (grow f w w') w' := by
  obtain ⟨S, L, hv, wv, o, h1, h2, rfl, h4, h5, fM, fR, fs, fh, fw⟩ := h.ex
  obtain ⟨x, hx, hg, rfl⟩ := h2.index hm
  have hxl : x < S.T.rows.length := h2.tab.lt x (by simp [hx])
  obtain ⟨s', hs'⟩ := h2.first hx
  obtain ⟨p1, p2, p3, p4⟩ := h2.leave hx hs'
  obtain ⟨g1, g2⟩ := h2.half_old hx hs'
  obtain ⟨g3, g4⟩ := g1.drop
  have hlen := h2.tab.len
  have hbd := h2.tab.bounds
  have hol := h2.llen
  have hpc := (h2.place hx).1
  obtain ⟨ao, cap, hwv, _⟩ := ownK_form h5
  have hwv : wv = .slice ao 0 cap := hwv
  subst hwv
  have hkS : ∀ m, m = (Lr.rat S.T.rows x).k → (Lr.rat (S.at_ s').T.rows x).k = m := fun m e => by rw [h2.rat_at p1 hxl, e]
  go_enter Try.func26, Try.ntmps26
  go_wp2_with fail
  refine (dfind_any h1 hk).mono ?_
  rintro e w1 ⟨rfl, b1⟩
  rw [hg]
  go_wp2_with fail
  refine (dpart0 (h1.below b1)).mono ?_
  rintro e w2 ⟨rfl, e2, t2⟩
  obtain ⟨_, _, _, r3, rf⟩ := e2.row hxl
  have htk := fun W hW => htake_D ((e2.hd (by omega)).same2 W hW) (p := (Lr.rat S.T.rows x).c) hpc h2.okl (by show S.l.length < _; omega)
  rw [hs'] at htk
  have hte := fun W hW => dterm_any (e2.same (w' := W) hW) hxl
  go_wp2_with fail
  go_region_with (first
    | (go_at_call 48; refine (hte w2.drew rfl).mono ?_; rintro e w3 ⟨rfl, rfl⟩)
    | (go_at_call 47; refine (htk w2.drew rfl).mono ?_; rintro e w3 ⟨rfl, v, e3, fv, t3⟩))
  have ed : DueE X (S.at_ s') L v (.slice none 0 0) w3 := e3.due
  have hl1 : (S.at_ s').T.rows.length = S.T.rows.length := Du.withC_len p1
  obtain ⟨bx3, ht3, hx3⟩ := ed.ex
  go_wp2_with fail
  refine (dropT ht3 (i := x) (by rw [hl1]; exact hxl) (by show I64 (Lr.rat (S.at_ s').T.rows x).k; rw [hkS _ rfl]; exact hk) (by show S.T.spare.length < _; omega)).mono ?_
  rintro e w4 ⟨rfl, e4⟩
  obtain ⟨L4, e5, t5, m1, m2, m3, m4⟩ := ed.tab hx3 e4
  go_wp2
  go_ret
  have s1 : Trn f w w1 := Trn.of_below b1
  have s2 := s1.trans (t2.mono (g := grow f w w1) fun b _ e => .inl (e ▸ h.fX))
  have s3 := (s2.trans (Trn.drew w2 1)).trans (t3.mono (g := grow f w w2.drew) fun b _ e => .inl (e.elim (fun e => e ▸ h.fX) (fun e => e.elim (fh b) (fun e => e ▸ fR))))
  have s4 := s3.trans (t5.mono (g := grow f w w3) fun b _ e => .inl (e.elim (fun e => e ▸ h.fX) (fun e => e.elim (fun e => e ▸ fM) (fun e => e.elim (fun e => e ▸ fR) (fs b)))))
  have z3 := s3.size
  have hE : (o.map (Du.ent S)).filter (fun e => e.1 != (Lr.rat S.T.rows x).k) = (o.erase x).map (Du.ent ⟨(S.at_ s').turns, (S.at_ s').T.drop x, (S.at_ s').l⟩) := by
    rw [← h2.erased hx]
    refine List.map_congr_left fun i hi => ?_
    rw [g4 i hi, g2 i (List.mem_of_mem_erase hi)]
  exact ⟨rfl, s4, DV.fin e5 g3 hE (by omega) h.fX (.inl (by rw [m1]; exact fM)) (m3.imp (fun e => by rw [e]; exact fR) (fun e => by omega)) (fun g e => (m4 g e).imp (fs g) (fun e => by omega)) (fun g e => .inl (fh g (fv g e))) h.fb s4⟩
end
end Go.Proofs.Ytchlemajppnehaa

/- A Due's calls: Set. -/
set_option maxRecDepth 100000
namespace Go.Proofs.Ytchlemajppnehaa
open Go Go.RowKit Go.Shelf Go.Maps
section
variable {X : Nat} {S : Du.St} {L : TL} {hv wv : Value} {w w' : World} {o : List Nat} {E : List (Int × Int)} {N : Nat} {f : Nat → Prop}
/-- A term is written, cell by cell. -/
theorem DueE.write (h : DueE X S L hv wv w) {i : Nat} (hi : i < S.T.rows.length) (a : Int) (b c : Nat) :
    DueE X { S with T := ⟨S.T.rows.set i ⟨(Lr.rat S.T.rows i).k, a, b, c⟩, S.T.spare, S.T.g⟩ } L hv wv (((w.setCell ⟨L.R, i * 4 + 1, none⟩ (.int .i64 a)).setCell ⟨L.R, i * 4 + 2, none⟩ (encI b)).setCell ⟨L.R, i * 4 + 3, none⟩ (encI c)) ∧
      Trn (fun b => b = L.R) w (((w.setCell ⟨L.R, i * 4 + 1, none⟩ (.int .i64 a)).setCell ⟨L.R, i * 4 + 2, none⟩ (encI b)).setCell ⟨L.R, i * 4 + 3, none⟩ (encI c)) := by
  have nR := fun g e => (h.hR g e).1
  obtain ⟨bx, h1, h2⟩ := h.ex
  obtain ⟨d, hd⟩ := own_blk h1.rows
  have k1 := h1.set hi (f := 1) (by omega) (u := .int .i64 a) (r := ⟨(Lr.rat S.T.rows i).k, a, (Lr.rat S.T.rows i).b, (Lr.rat S.T.rows i).c⟩) rfl rfl
  have a1 : (⟨S.T.rows.set i ⟨(Lr.rat S.T.rows i).k, a, (Lr.rat S.T.rows i).b, (Lr.rat S.T.rows i).c⟩, S.T.spare, S.T.g⟩ : Tb.Tab).at_ i = ⟨(Lr.rat S.T.rows i).k, a, (Lr.rat S.T.rows i).b, (Lr.rat S.T.rows i).c⟩ := by simp [Tb.Tab.at_, hi]
  have k2 := k1.set (i := i) (by simpa using hi) (f := 2) (by omega) (u := encI b) (r := ⟨(Lr.rat S.T.rows i).k, a, b, (Lr.rat S.T.rows i).c⟩) (by rw [a1]; rfl) rfl
  simp only [List.set_set] at k2
  have a2 : (⟨S.T.rows.set i ⟨(Lr.rat S.T.rows i).k, a, b, (Lr.rat S.T.rows i).c⟩, S.T.spare, S.T.g⟩ : Tb.Tab).at_ i = ⟨(Lr.rat S.T.rows i).k, a, b, (Lr.rat S.T.rows i).c⟩ := by simp [Tb.Tab.at_, hi]
  have k3 := k2.set (i := i) (by simpa using hi) (f := 3) (by omega) (u := encI c) (r := ⟨(Lr.rat S.T.rows i).k, a, b, c⟩) (by rw [a2]; rfl) rfl
  simp only [List.set_set] at k3
  have t := ((Trn.set1 hd (i * 4 + 1) (.int .i64 a)).trans ((Trn.set1 (hd.set _ _) (i * 4 + 2) (encI b)).mono fun _ _ e => .inl e)).trans ((Trn.set1 ((hd.set _ _).set _ _) (i * 4 + 3) (encI c)).mono fun _ _ e => .inl e)
  have hk : ∀ (W : World) (q : Nat) (u : Value) (g : Nat), hv.ownBlock = some g → (W.setCell ⟨L.R, q, none⟩ u).heap[g]? = W.heap[g]? := fun W q u g e => Below.heap_setCell W ⟨L.R, q, none⟩ u g (nR g e)
  exact ⟨⟨⟨bx, k3, h2⟩, own_kept h.heap (fun g e => ((hk _ _ _ g e).trans (hk _ _ _ g e)).trans (hk _ _ _ g e)), h.apart⟩, t⟩
set_option maxHeartbeats 4000000 in
theorem dset_old (h : DV X E N f w) {k a : Int} (hk : I64 k) (hm : k ∈ E.map (·.1)) (hN : N < 80000) (_ha : I64 a) :
    Calls Try.prog 24 #[.pointer (some ⟨X, 0, none⟩), .int .i64 k, .int .i64 a] w fun e w' => e = .returned (.tuple #[]) ∧ Trn f w w' ∧ DV X (E.filter (fun e => e.1 != k) ++ [(k, a)]) (N + 1) (grow f w w') w' := by
  obtain ⟨S, L, hv, wv, o, h1, h2, rfl, h4, h5, fM, fR, fs, fh, fw⟩ := h.ex
  obtain ⟨x, hx, hg, rfl⟩ := h2.index hm
  have hxl : x < S.T.rows.length := h2.tab.lt x (by simp [hx])
  obtain ⟨s', hs'⟩ := h2.first hx
  obtain ⟨p1, p2, p3, p4⟩ := h2.leave hx hs'
  obtain ⟨g1, g2⟩ := h2.half_old hx hs'
  have hlen := h2.tab.len
  have hbd := h2.tab.bounds
  have hol := h2.llen
  have hpc := (h2.place hx).1
  obtain ⟨ao, cap, hwv, _⟩ := ownK_form h5
  have hwv : wv = .slice ao 0 cap := hwv
  subst hwv
  obtain ⟨bx, ht, _⟩ := h1.ex
  have q1 := qDue
  have hE : (o.map (Du.ent S)).filter (fun e => e.1 != (Lr.rat S.T.rows x).k) = (o.erase x).map (Du.ent (S.at_ s')) := by
    rw [← h2.erased hx]
    exact List.map_congr_left fun i hi => (g2 i (List.mem_of_mem_erase hi)).symm
  have hkS : (Lr.rat (S.at_ s').T.rows x).k = (Lr.rat S.T.rows x).k := by rw [h2.rat_at p1 hxl]
  obtain ⟨G, hG⟩ : ∃ G, G = (o.map (Du.ent S)).filter (fun e => e.1 != (Lr.rat S.T.rows x).k) ++ [((Lr.rat S.T.rows x).k, a)] := ⟨_, rfl⟩
  rw [← hG]
  rw [hE] at hG
  go_enter Try.func24, Try.ntmps24
  go_wp2_with fail
  refine (takesT ht _ hk).mono ?_
  rintro e w0 ⟨rfl, b0⟩
  go_wp2_with fail
  refine (dpart0 (h1.below b0)).mono ?_
  rintro e w1 ⟨rfl, e1, t1⟩
  go_wp2_with fail
  refine (dfind_any e1 hk).mono ?_
  rintro e w2 ⟨rfl, b2⟩
  rw [hg]
  have e2 := e1.below b2
  obtain ⟨_, _, _, r3, rf⟩ := e2.row hxl
  have htk := fun W hW => htake_D ((e2.hd (by omega)).same2 W hW) (p := (Lr.rat S.T.rows x).c) hpc h2.okl (by show S.l.length < _; omega)
  rw [hs'] at htk
  have hte := fun W hW => dterm_any (e2.same (w' := W) hW) hxl
  go_wp2_with fail
  go_region_with (first
    | (go_at_call 48; refine (hte w2.drew rfl).mono ?_; rintro e w3 ⟨rfl, rfl⟩)
    | (go_at_call 47; refine (htk w2.drew rfl).mono ?_; rintro e w5 ⟨rfl, v, e3, fv, t3⟩))
  have e5 : DueE X (S.at_ s') L v (.slice none 0 0) w5 := e3.due
  have s5 : Trn f w w5 := by
    have s1 := (Trn.of_below (f := f) b0).trans (t1.mono (g := grow f w w0) fun b _ e => .inl (e ▸ h.fX))
    have s2 := s1.trans (Trn.of_below b2)
    exact (s2.trans (Trn.drew w2 1)).trans (t3.mono (g := grow f w w2.drew) fun b _ e => .inl (e.elim (fun e => e ▸ h.fX) (fun e => e.elim (fh b) (fun e => e ▸ fR))))
  have fvv : ∀ b, v.ownBlock = some b → f b ∨ w.heap.size ≤ b := fun b e => .inl (fh b (fv b e))
  have fM : f L.M ∨ w.heap.size ≤ L.M := .inl fM
  have fR : f L.R ∨ w.heap.size ≤ L.R := .inl fR
  have fs : ∀ g, L.sv.ownBlock = some g → f g ∨ w.heap.size ≤ g := fun g e => .inl (fs g e)
  have h4 : L.n ≤ N + 1 := by omega
  clear r3 rf htk hte hs' p2 p3 e3 t3 t1 b0 b2 e1 e2 h1 ht hm hg q1 hE hbd hol hpc p4 hx fh fv fw g2 h2 h5 hlen
  generalize (Lr.rat S.T.rows x).k = k at *
  generalize S.at_ s' = S1 at *
  generalize o.erase x = o1 at *
  have hl5 : x < S1.T.rows.length := g1.tab.lt x (by simp)
  have hlen5 := g1.tab.len
  have htn5 := g1.tn
  obtain ⟨i1, i2, i3, _⟩ := g1.push a
  have ol5 : ∀ y ∈ S1.l, y < S1.T.rows.length := fun y hy => by
    obtain ⟨p, hp, e⟩ := List.mem_iff_getElem.1 hy
    have hm : y ∈ o1 := (g1.heap.rng y).1 ⟨p, hp, by show S1.sp.l.getD p 0 = y; rw [List.getD_eq_getElem?_getD, List.getElem?_eq_getElem (show p < S1.sp.l.length from hp)]; exact e⟩
    exact g1.tab.lt y (by simp [hm])
  have ln5 : S1.l.length = o1.length := Du.is_len g1.heap (List.nodup_append.1 (List.nodup_append.1 g1.tab.nd).1).1
  have bd5 := g1.tab.bounds
  rw [List.length_append, List.length_singleton] at bd5
  obtain ⟨q0, _, _, _, _, _, qf⟩ := e5.cells
  unfold encI at q0
  obtain ⟨e6, t6⟩ := e5.turned (S1.turns + 1)
  go_wp2_with fail
  have hcast : ((S1.turns : Int) + 1) = ((S1.turns + 1 : Nat) : Int) := rfl
  replace e6 : DueE X { S1 with turns := S1.turns + 1 } L v (.slice none 0 0) (w5.setCell ⟨X, 0, none⟩ (.int .i64 ((S1.turns : Int) + 1))) := e6
  replace t6 : Trn (fun b => b = X) w5 (w5.setCell ⟨X, 0, none⟩ (.int .i64 ((S1.turns : Int) + 1))) := t6
  generalize w5.setCell ⟨X, 0, none⟩ (.int .i64 ((S1.turns : Int) + 1)) = w6 at *
  clear q0 qf
  obtain ⟨q0, _, _, _, _, _, qf⟩ := e6.cells
  replace q0 : w6.cell? ⟨X, 0, none⟩ = some (.int .i64 ((S1.turns + 1 : Nat) : Int)) := q0
  obtain ⟨r0, r1, r2, r3, rf⟩ := e6.row (i := x) hl5
  have hte := fun W hW => dterm_any (e6.same (w' := W) hW) (i := x) hl5
  obtain ⟨e7, t7⟩ := e6.write (i := x) hl5 a (S1.turns + 1) 0
  have E8 := Lib.hid (DueE.hd (S := S1.due x a) e7 (by show (S1.T.rows.set _ _).length < _; rw [List.length_set]; omega))
  have T7 := Lib.hid t7
  clear e7 t7
  generalize (S1.turns + 1 : Nat) = tn at *
  go_region_with (first
    | (go_at_call 48; refine (hte w6.drew rfl).mono ?_; rintro e w7 ⟨rfl, rfl⟩))
  all_goals (
    go_wp2_with fail
    refine (hpush_D (HD.same2 E8.out _ (by rfl)) (x := x) (by show x < (S1.T.rows.set _ _).length; rw [List.length_set]; exact hl5) (fun y hy => by show y < (S1.T.rows.set _ _).length; rw [List.length_set]; exact ol5 y hy) (by show S1.l.length + 1 < _; omega)).mono ?_
    rintro e w9 ⟨rfl, v9, e9, f9, t9⟩
    go_wp2
    go_end0
    have s6 := s5.trans (t6.mono (g := grow f w w5) fun b _ e => .inl (e ▸ h.fX))
    have z5 := s5.size
    have z6 := s6.size
    have gR : f L.R ∨ (w.heap.size ≤ L.R ∧ L.R < w6.heap.size) := fR.imp id (fun e => ⟨e, e6.lt.2⟩)
    have s7 := s6.trans (T7.out.mono (g := grow f w w6) fun b _ e => e ▸ gR)
    have z7 := s7.size
    have s8 := (s7.trans (Trn.drew _ 1)).trans (t9.mono (g := grow f w _) fun b hb e => e.elim (fun e => .inl (e ▸ h.fX)) (fun e => e.elim (fun e => (fvv b e).imp id (fun e => ⟨e, hb⟩)) (fun e => (fR.imp (fun e2 => e ▸ e2) (fun e2 => ⟨e ▸ e2, hb⟩)))))
    refine ⟨rfl, s8, DV.fin (o' := o1 ++ [x]) e9.due i1 ?_ h4 h.fX fM fR fs (fun g e => ?_) h.fb s8⟩
    · show G = (o1 ++ [x]).map (Du.ent ((S1.due x a).at_ (Hp.push (Du.lt (S1.due x a).T.rows) (S1.due x a).sp x)))
      rw [hG, List.map_append, List.map_cons, List.map_nil, i3, hkS]
      exact congrArg (· ++ [(k, a)]) (List.map_congr_left fun i hi => (i2 i hi).symm)
    · rcases f9 g e with e2 | e2
      · exact fvv g e2
      · exact .inr (Nat.le_trans z7 e2)
  )
set_option maxHeartbeats 4000000 in
theorem dset_new (h : DV X E N f w) {k a : Int} (hk : I64 k) (hm : k ∉ E.map (·.1)) (hN : N < 80000) (_ha : I64 a) :
    Calls Try.prog 24 #[.pointer (some ⟨X, 0, none⟩), .int .i64 k, .int .i64 a] w fun e w' => e = .returned (.tuple #[]) ∧ Trn f w w' ∧ DV X (E.filter (fun e => e.1 != k) ++ [(k, a)]) (N + 1) (grow f w w') w' := by
  obtain ⟨S, L, hv, wv, o, h1, h2, rfl, h4, h5, fM, fR, fs, fh, fw⟩ := h.ex
  have hg := h2.none hm
  obtain ⟨g1, g2, hkS, _⟩ := h2.half_new hk hg
  have hlen := h2.tab.len
  have hbd := h2.tab.bounds
  have hol := h2.llen
  have hsl := fun j hj => h2.tab.lt j (List.mem_append_right o hj)
  obtain ⟨ao, cap, hwv, _⟩ := ownK_form h5
  have hwv : wv = .slice ao 0 cap := hwv
  subst hwv
  obtain ⟨bx, ht, _⟩ := h1.ex
  have q1 := qDue
  have hE : (o.map (Du.ent S)).filter (fun e => e.1 != k) = o.map (Du.ent ⟨S.turns, S.T.add k, S.l⟩) := by
    rw [List.filter_eq_self.2 (fun e he => by
      rw [bne_iff_ne]
      exact fun e2 => hm (e2 ▸ List.mem_map_of_mem he))]
    exact List.map_congr_left fun i hi => (g2 i hi).symm
  obtain ⟨G, hG⟩ : ∃ G, G = (o.map (Du.ent S)).filter (fun e => e.1 != k) ++ [(k, a)] := ⟨_, rfl⟩
  rw [← hG]
  rw [hE] at hG
  go_enter Try.func24, Try.ntmps24
  go_wp2_with fail
  refine (takesT ht _ hk).mono ?_
  rintro e w0 ⟨rfl, b0⟩
  go_wp2_with fail
  refine (dpart0 (h1.below b0)).mono ?_
  rintro e w1 ⟨rfl, e1, t1⟩
  go_wp2_with fail
  refine (dfind_any e1 hk).mono ?_
  rintro e w2 ⟨rfl, b2⟩
  rw [hg]
  have e2 := e1.below b2
  go_wp2_with fail
  obtain ⟨bx3, ht3, hx3⟩ := e2.ex
  refine (addT ht3 k hk hsl (by omega) (by omega) (by omega)).mono ?_
  rintro e w5 ⟨rfl, e4⟩
  obtain ⟨L1, e5, t5, m1, m2, m3, m4⟩ := e2.tab hx3 e4
  have s3 : Trn f w w2 := ((Trn.of_below (f := f) b0).trans (t1.mono (g := grow f w w0) fun b _ e => .inl (e ▸ h.fX))).trans (Trn.of_below b2)
  have s5 : Trn f w w5 := s3.trans (t5.mono (g := grow f w w2) fun b _ e => .inl (e.elim (fun e => e ▸ h.fX) (fun e => e.elim (fun e => e ▸ fM) (fun e => e.elim (fun e => e ▸ fR) (fs b)))))
  have z3 := s3.size
  have fvv : ∀ b, hv.ownBlock = some b → f b ∨ w.heap.size ≤ b := fun b e => .inl (fh b e)
  have fM : f L1.M ∨ w.heap.size ≤ L1.M := .inl (by rw [m1]; exact fM)
  have fR : f L1.R ∨ w.heap.size ≤ L1.R := m3.imp (fun e => by rw [e]; exact fR) (fun e => by omega)
  have fs : ∀ g, L1.sv.ownBlock = some g → f g ∨ w.heap.size ≤ g := fun g e => (m4 g e).imp (fs g) (fun e => by omega)
  have h4 : L1.n ≤ N + 1 := by omega
  clear e4 t5 t1 b0 b2 e1 e2 ht3 hx3 h1 ht hm hg q1 hE hbd hol fh fw g2 h2 h5 hlen hsl m1 m2 m3 m4 s3
  replace hkS : (Lr.rat (⟨S.turns, S.T.add k, S.l⟩ : Du.St).T.rows S.T.free).k = k := hkS
  generalize S.T.free = x at *
  generalize (⟨S.turns, S.T.add k, S.l⟩ : Du.St) = S1 at *
  have hl5 : x < S1.T.rows.length := g1.tab.lt x (by simp)
  have hlen5 := g1.tab.len
  have htn5 := g1.tn
  obtain ⟨i1, i2, i3, _⟩ := g1.push a
  have ol5 : ∀ y ∈ S1.l, y < S1.T.rows.length := fun y hy => by
    obtain ⟨p, hp, e⟩ := List.mem_iff_getElem.1 hy
    have hm : y ∈ o := (g1.heap.rng y).1 ⟨p, hp, by show S1.sp.l.getD p 0 = y; rw [List.getD_eq_getElem?_getD, List.getElem?_eq_getElem (show p < S1.sp.l.length from hp)]; exact e⟩
    exact g1.tab.lt y (by simp [hm])
  have ln5 : S1.l.length = o.length := Du.is_len g1.heap (List.nodup_append.1 (List.nodup_append.1 g1.tab.nd).1).1
  have bd5 := g1.tab.bounds
  rw [List.length_append, List.length_singleton] at bd5
  obtain ⟨q0, _, _, _, _, _, qf⟩ := e5.cells
  unfold encI at q0
  obtain ⟨e6, t6⟩ := e5.turned (S1.turns + 1)
  go_wp2_with fail
  have hcast : ((S1.turns : Int) + 1) = ((S1.turns + 1 : Nat) : Int) := rfl
  replace e6 : DueE X { S1 with turns := S1.turns + 1 } L1 hv (.slice none 0 0) (w5.setCell ⟨X, 0, none⟩ (.int .i64 ((S1.turns : Int) + 1))) := e6
  replace t6 : Trn (fun b => b = X) w5 (w5.setCell ⟨X, 0, none⟩ (.int .i64 ((S1.turns : Int) + 1))) := t6
  generalize w5.setCell ⟨X, 0, none⟩ (.int .i64 ((S1.turns : Int) + 1)) = w6 at *
  clear q0 qf
  obtain ⟨q0, _, _, _, _, _, qf⟩ := e6.cells
  replace q0 : w6.cell? ⟨X, 0, none⟩ = some (.int .i64 ((S1.turns + 1 : Nat) : Int)) := q0
  obtain ⟨r0, r1, r2, r3, rf⟩ := e6.row (i := x) hl5
  have hte := fun W hW => dterm_any (e6.same (w' := W) hW) (i := x) hl5
  obtain ⟨e7, t7⟩ := e6.write (i := x) hl5 a (S1.turns + 1) 0
  have E8 := Lib.hid (DueE.hd (S := S1.due x a) e7 (by show (S1.T.rows.set _ _).length < _; rw [List.length_set]; omega))
  have T7 := Lib.hid t7
  clear e7 t7
  generalize (S1.turns + 1 : Nat) = tn at *
  go_region_with (first
    | (go_at_call 48; refine (hte w6.drew rfl).mono ?_; rintro e w7 ⟨rfl, rfl⟩))
  all_goals (
    go_wp2_with fail
    refine (hpush_D (HD.same2 E8.out _ (by rfl)) (x := x) (by show x < (S1.T.rows.set _ _).length; rw [List.length_set]; exact hl5) (fun y hy => by show y < (S1.T.rows.set _ _).length; rw [List.length_set]; exact ol5 y hy) (by show S1.l.length + 1 < _; omega)).mono ?_
    rintro e w9 ⟨rfl, v9, e9, f9, t9⟩
    go_wp2
    go_end0
    have s6 := s5.trans (t6.mono (g := grow f w w5) fun b _ e => .inl (e ▸ h.fX))
    have z5 := s5.size
    have z6 := s6.size
    have gR : f L1.R ∨ (w.heap.size ≤ L1.R ∧ L1.R < w6.heap.size) := fR.imp id (fun e => ⟨e, e6.lt.2⟩)
    have s7 := s6.trans (T7.out.mono (g := grow f w w6) fun b _ e => e ▸ gR)
    have z7 := s7.size
    have s8 := (s7.trans (Trn.drew _ 1)).trans (t9.mono (g := grow f w _) fun b hb e => e.elim (fun e => .inl (e ▸ h.fX)) (fun e => e.elim (fun e => (fvv b e).imp id (fun e => ⟨e, hb⟩)) (fun e => (fR.imp (fun e2 => e ▸ e2) (fun e2 => ⟨e ▸ e2, hb⟩)))))
    refine ⟨rfl, s8, DV.fin (o' := o ++ [x]) e9.due i1 ?_ h4 h.fX fM fR fs (fun g e => ?_) h.fb s8⟩
    · show G = (o ++ [x]).map (Du.ent ((S1.due x a).at_ (Hp.push (Du.lt (S1.due x a).T.rows) (S1.due x a).sp x)))
      rw [hG, List.map_append, List.map_cons, List.map_nil, i3, hkS]
      exact congrArg (· ++ [(k, a)]) (List.map_congr_left fun i hi => (i2 i hi).symm)
    · rcases f9 g e with e2 | e2
      · exact fvv g e2
      · exact .inr (Nat.le_trans z7 e2)
  )
end
end Go.Proofs.Ytchlemajppnehaa

/- A new table, of terms. -/
set_option maxRecDepth 100000
namespace Go.Proofs.Ytchlemajppnehaa
open Go Go.RowKit Go.Shelf Go.Maps
set_option maxHeartbeats 1000000 in
theorem newTabT (w : World) :
    Calls Try.prog 41 #[.int .i64 0] w fun e w' => ∃ M R, e = .returned (.agg #[.map (some M), .slice (some ⟨R, 0, none⟩) 0 0, .slice none 0 0]) ∧ Below w.heap.size w w' ∧ MapI M 0 (fun _ => none) w' ∧
      OwnK encR 4 tT 0 (.slice (some ⟨R, 0, none⟩) 0 0) (List.replicate 0 Tb.zero) w' ∧ w.heap.size ≤ M ∧ w.heap.size ≤ R := by
  go_enter Try.func41, Try.ntmps41
  have hmm := @run_makeMap Try.prog
  obtain ⟨i, hi, hz0, hz1, hz2⟩ := info_parts infoT
  have hms : ∀ W : World, (Instr.makeSlice 56 (.int .i64 0) (.int .i64 0)).run Try.prog W = .ok (.slice (some ⟨W.heap.size, 0, none⟩) 0 0) (W.alloc (.cells ((List.replicate 0 Tb.zero).flatMap encR).toArray tT)) := fun W => by
    have h := run_make (P := Try.prog) W 56 tT i _ Try.underlying56 hi hz0 .i64 .i64 0 0 (by omega) (by omega) (by rw [hz2]; omega) (by omega)
    rw [h, hz1]
    have e : madeCells (Value.agg #[.int .i64 0, .int .i64 0, .int .i64 0, .int .i64 0]).cells ((0 : Int).toNat * 4) = ((List.replicate 0 Tb.zero).flatMap encR).toArray := by kernel_rfl
    rw [e]
    rfl
  go_wp2
  generalize hW1 : w.alloc (.cells #[.map (some (w.heap.size + 1)), .slice (some ⟨w.heap.size + 1 + 1, 0, none⟩) 0 0, .slice none 0 0] 58) = W1
  have s1 : W1.heap.size = w.heap.size + 1 := by rw [← hW1]; simp
  have b1 : Below w.heap.size w W1 := by rw [← hW1]; exact (Below.refl _ _).alloc (Nat.le_refl _) _
  have c1 : ∀ i, W1.cell? ⟨w.heap.size, i, none⟩ = #[Value.map (some (w.heap.size + 1)), .slice (some ⟨w.heap.size + 1 + 1, 0, none⟩) 0 0, .slice none 0 0][i]? := fun i => by
    rw [← hW1]
    show (match (w.alloc _).heap[w.heap.size]? with | some (.cells c _ _) => c[i]? | _ => none) = _
    rw [World.alloc_heap_new]
  have m1 := mapI_new W1
  rw [s1] at m1
  generalize hW2 : W1.alloc (.map #[] 0) = W2 at *
  have s2 : W2.heap.size = w.heap.size + 1 + 1 := by rw [← hW2]; simp [s1]
  have b2 : Below w.heap.size w W2 := by rw [← hW2]; exact b1.alloc (by omega) _
  have k2 : ∀ k, k < W1.heap.size → W2.heap[k]? = W1.heap[k]? := fun k hk => by rw [← hW2]; exact Below.heap_alloc _ _ _ hk
  have n3 := World.alloc_heap_new W2 (.cells #[] tT)
  rw [s2] at n3
  have k3 : ∀ k, k < W2.heap.size → (W2.alloc (.cells #[] tT)).heap[k]? = W2.heap[k]? := fun k hk => Below.heap_alloc _ _ _ hk
  have d1 : ∀ i, (W2.alloc (.cells #[] tT)).cell? ⟨w.heap.size, i, none⟩ = #[Value.map (some (w.heap.size + 1)), .slice (some ⟨w.heap.size + 1 + 1, 0, none⟩) 0 0, .slice none 0 0][i]? := fun i => by
    rw [← c1 i]
    exact cell_same ((k3 _ (by omega)).trans (k2 _ (by omega))) i
  have e0 := d1 0
  have e1 := d1 1
  have e2 := d1 2
  simp at e0 e1 e2
  refine bodyPost_ret (v := .agg #[.map (some (w.heap.size + 1)), .slice (some ⟨w.heap.size + 1 + 1, 0, none⟩) 0 0, .slice none 0 0]) (by simp [results, Try.results41, go_sem, e0, e1, e2]) rfl ⟨_, _, rfl, b2.alloc (by omega) _, m1.kept (k3 _ (by omega)), ?_, by omega, by omega⟩
  exact ⟨by rfl, .inr ⟨_, 0, _, rfl, Nat.zero_le _, n3, by decide, by unfold maxLen; decide, by rfl, by rfl⟩⟩
end Go.Proofs.Ytchlemajppnehaa

/- A new Due. -/
set_option maxRecDepth 100000
namespace Go.Proofs.Ytchlemajppnehaa
open Go Go.RowKit Go.Shelf Go.Maps
namespace Du
def st0 : St := ⟨0, ⟨[], [], fun _ => none⟩, []⟩
theorem inv0 : InvD st0 [] 0 := by
  refine ⟨⟨Nat.le_refl 0, List.nodup_nil, fun i hi => (by cases hi), fun k i => ⟨fun e => (by cases e), fun e => (by cases e.1)⟩, fun i hi => (by cases hi)⟩, List.Pairwise.nil, fun i hi => (by cases hi), Nat.le_refl 0, ⟨fun p q hp => absurd hp (Nat.not_lt_zero p), fun v => ⟨fun ⟨p, hp, _⟩ => absurd hp (Nat.not_lt_zero p), fun e => (by cases e)⟩, fun p _ hp => absurd hp (Nat.not_lt_zero p)⟩, fun p hp => absurd hp (Nat.not_lt_zero p)⟩
end Du
@[go_sem] theorem run_store_func9 {P : Program} {w : World} {a : Addr} {m : Mode} (fn : Fn) (first captured : Array Value) : (store a (.func fn first captured) m).run P w = stored P w a (.func fn first captured) m := run_store P w a _ m rfl
set_option maxHeartbeats 2000000 in
theorem dnew_any (w : World) :
    Calls Try.prog 23 #[] w fun e w' => ∃ X, e = .returned (.pointer (some ⟨X, 0, none⟩)) ∧ w.heap.size ≤ X ∧ Below w.heap.size w w' ∧ DV X [] 0 (fun k => w.heap.size ≤ k ∧ k < w'.heap.size) w' := by
  go_enter Try.func23, Try.ntmps23
  go_wp2_with fail
  refine (newTabT w).mono ?_
  rintro e w1 ⟨m, R, rfl, b1, m1, o1, l1, l2⟩
  have hb0 : Blk (w1.alloc (.cells #[.int .i64 0, .map (some m), .slice (some ⟨R, 0, none⟩) 0 0, .slice none 0 0, .slice none 0 0, .nilFunc, .nilFunc, .slice none 0 0] 67)) w1.heap.size [.int .i64 0, .map (some m), .slice (some ⟨R, 0, none⟩) 0 0, .slice none 0 0, .slice none 0 0, .nilFunc, .nilFunc, .slice none 0 0] 67 := Blk.new w1 _ 67
  have hb1 : Blk (w1.alloc (.cells #[.int .i64 0, .map (some m), .slice (some ⟨R, 0, none⟩) 0 0, .slice none 0 0, .slice none 0 0, fvA w1.heap.size, .nilFunc, .slice none 0 0] 67)) w1.heap.size [.int .i64 0, .map (some m), .slice (some ⟨R, 0, none⟩) 0 0, .slice none 0 0, .slice none 0 0, fvA w1.heap.size, .nilFunc, .slice none 0 0] 67 := Blk.new w1 _ 67
  have hb2 : Blk (w1.alloc (.cells #[.int .i64 0, .map (some m), .slice (some ⟨R, 0, none⟩) 0 0, .slice none 0 0, .slice none 0 0, fvA w1.heap.size, fvM w1.heap.size, .slice none 0 0] 67)) w1.heap.size [.int .i64 0, .map (some m), .slice (some ⟨R, 0, none⟩) 0 0, .slice none 0 0, .slice none 0 0, fvA w1.heap.size, fvM w1.heap.size, .slice none 0 0] 67 := Blk.new w1 _ 67
  have c4 := hb0.cell (i := 4) rfl
  have c5 := hb0.cell (i := 5) rfl
  have c6 := hb1.cell (i := 6) rfl
  have hf := hb0.frozen
  have hf1 := hb1.frozen
  unfold fvA at c6 hf1
  have HB := Lib.hid hb2
  clear hb0 hb1 hb2
  go_wp2
  go_ret
  have hs := b1.size
  obtain ⟨dR, hdR⟩ := own_blk o1
  have hkp := fun b hb => Below.heap_alloc w1 (.cells #[.int .i64 0, .map (some m), .slice (some ⟨R, 0, none⟩) 0 0, .slice none 0 0, .slice none 0 0, fvA w1.heap.size, fvM w1.heap.size, .slice none 0 0] 67) b hb
  have b2 : Below w.heap.size w (w1.alloc (.cells #[.int .i64 0, .map (some m), .slice (some ⟨R, 0, none⟩) 0 0, .slice none 0 0, .slice none 0 0, fvA w1.heap.size, fvM w1.heap.size, .slice none 0 0] 67)) := b1.alloc (by omega) _
  have hm := m1.lt
  have hR := hdR.lt
  have hz : (w1.alloc (.cells #[.int .i64 0, .map (some m), .slice (some ⟨R, 0, none⟩) 0 0, .slice none 0 0, .slice none 0 0, fvA w1.heap.size, fvM w1.heap.size, .slice none 0 0] 67)).heap.size = w1.heap.size + 1 := by simp
  refine ⟨w1.heap.size, rfl, hs, b2, ⟨⟨Du.st0, ⟨m, 0, R, 0, .slice none 0 0⟩, .slice none 0 0, .slice none 0 0, [], ⟨⟨_, ⟨HB.out, rfl, rfl, rfl, m1.kept (hkp _ hm), own_kept o1 (fun g e => by cases e; exact hkp _ hR), ownK_nil _ _ _ _ _, by decide⟩, rfl, rfl, rfl, rfl, rfl⟩, ownK_nil _ _ _ _ _, fun g e => (by cases e)⟩, Du.inv0, rfl, Nat.le_refl 0, ownK_nil _ _ _ _ _, ⟨l1, Nat.lt_of_lt_of_eq (by show m < _; omega) hz.symm⟩, ⟨l2, Nat.lt_of_lt_of_eq (by show R < _; omega) hz.symm⟩, fun g e => (by cases e), fun g e => (by cases e), fun g e => (by cases e)⟩, ⟨hs, Nat.lt_of_lt_of_eq (Nat.lt_succ_self _) hz.symm⟩, fun k e => e.2⟩⟩
end Go.Proofs.Ytchlemajppnehaa
