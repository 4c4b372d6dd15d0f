/- 3 texts put together: Llrw, Llra, Llrt. -/
import Derived.Test.YtchlemajppnehaaJW5
/- An LRU's calls over its pure state: part, where nobody walks, find, demote. -/
set_option maxRecDepth 100000
namespace Go.Proofs.Ytchlemajppnehaa
open Go Go.RowKit Go.Shelf Go.Maps
section
variable {X : Nat} {S : Lr.St} {L : TL} {wv : Value} {w w' : World}
theorem LruE.walks (h : LruE X S L wv w) (u : Value) : LruE X S L u (w.setCell ⟨X, 6, none⟩ u) ∧ Trn (fun b => b = X) w (w.setCell ⟨X, 6, none⟩ u) := by
  obtain ⟨bx, h1, h2, h3, h4, h5⟩ := h.ex
  have hl := (List.getElem?_eq_some_iff.1 h5).1
  refine ⟨⟨bx.set 6 u, ?_, ?_, ?_, ?_, ?_⟩, Trn.set1 h1.box _ _⟩
  · exact h1.boxed (i := 6) (u := u) (T' := S.T) (sv' := L.sv) rfl (by rw [List.getElem?_set_ne (by omega)]; exact h1.c0) (by rw [List.getElem?_set_ne (by omega)]; exact h1.c1) (by rw [List.getElem?_set_ne (by omega)]; exact h1.c2) rfl rfl h1.spare (fun g e => (h1.neS e).1)
  · rw [List.getElem?_set_ne (by omega)]; exact h2
  · rw [List.getElem?_set_ne (by omega)]; exact h3
  · rw [List.getElem?_set_ne (by omega)]; exact h4
  · rw [List.getElem?_set_self (by omega)]
set_option maxHeartbeats 1000000 in
theorem lpart0 {ao : Option Addr} {cap : Nat} (h : LruE X S L (.slice ao 0 cap) w) :
    Calls Try.prog 60 #[.pointer (some ⟨X, 6, none⟩)] w fun e w' => e = .returned (.tuple #[]) ∧ LruE X S L (.slice none 0 0) w' ∧ Trn (fun b => b = X) w w' := by
  obtain ⟨_, _, _, q6, qf⟩ := h.cells
  have hw := h.walks (.slice none 0 0)
  go_enter Try.func60, Try.ntmps60
  go_wp2
  refine wp_loop_rounds 1 ?_
  rw [rounds_succ]
  go_wp2
  go_end0
  exact ⟨rfl, hw⟩
set_option maxHeartbeats 1000000 in
theorem lfind_any (h : LruE X S L wv w) {k : Int} (hk : I64 k) :
    Calls Try.prog 59 #[.pointer (some ⟨X, 0, none⟩), .int .i64 k] w fun e w' => e = .returned (.tuple #[.int .i64 (((S.T.g k).getD 0 : Nat) : Int), .bool (S.T.g k).isSome]) ∧ Below w.heap.size w w' := by
  obtain ⟨bx, h1, h2⟩ := h.ex
  have qp : ∀ (w : World) (a : Addr), (binOp .eql 44 (.pointer (some a)) (.pointer none)).run Try.prog w = .ok (.bool false) w := fun w a => by kernel_rfl
  go_enter Try.func59, Try.ntmps59
  go_wp2_with (go_at_call 78; refine (findS h1 k hk).mono ?_; rintro e w1 ⟨rfl, b1⟩)
  go_ret2
  exact ⟨rfl, b1⟩
set_option maxHeartbeats 1000000 in
theorem lfind_nil (k : Int) (w : World) :
    Calls Try.prog 59 #[.pointer none, .int .i64 k] w fun e w' => e = .returned (.tuple #[.int .i64 0, .bool false]) ∧ w = w' := by
  go_enter Try.func59, Try.ntmps59
  go_wp2
  go_ret2
  exact ⟨rfl, rfl⟩
set_option maxHeartbeats 1000000 in
theorem ldemote_any {p q : List Nat} {x : Nat} {N : Nat} (h : LruE X S L wv w) (hI : Lr.InvF S p (x :: q) [] N) (hN : N < 90000) :
    Calls Try.prog 64 #[.pointer (some ⟨X, 0, none⟩)] w fun e w' => e = .returned (.tuple #[]) ∧ LruE X ((S.leave x).join x 0) L wv w' ∧ Trn (fun b => b = X ∨ b = L.R) w w' := by
  have hb := hI.bounds
  have hl := hI.len
  have hc0 := hI.cnt0
  have hc1 := hI.cnt1
  have htwo := hI.two
  simp only [List.length_cons] at hb hc1
  have h0 : (Lr.rat S.T.rows 0).c = x := by
    have := hI.adj
    have := (Lr.Adj.cut (A := 1 :: p) (x := 0) (B := (x :: q) ++ [1])).1 this
    exact this.2.1.1
  obtain ⟨⟨a1, a2, a3, a4, a5⟩, hI2, _⟩ := Lr.InvF.leave1 (q1 := []) hI
  obtain ⟨⟨b1, b2⟩, hI3, _⟩ := hI2.join0
  have hlen2 := hI2.len
  have hb2 := hI2.bounds
  have hd0 := hI2.cnt0
  have hd1 := hI2.cnt1
  obtain ⟨_, _, _, i3⟩ := h.row (i := 0) (by omega)
  rw [h0] at i3
  replace i3 : w.cell? ⟨L.R, 0 * 4 + 3, none⟩ = some (.int .i64 (x : Int)) := i3
  simp only [Nat.zero_mul, Nat.zero_add] at i3
  have hs := seat_any h (i := 0) (by omega)
  go_enter Try.func64, Try.ntmps64
  go_wp2_with fail
  refine hs.mono ?_
  rintro e w1 ⟨rfl, rfl⟩
  go_wp2_with fail
  refine (lleave_any h a1 a2 a3 (.inr ⟨a4, a5⟩) (by omega) ⟨by omega, by omega⟩).mono ?_
  rintro e w2 ⟨rfl, e2, t2⟩
  go_wp2_with fail
  refine (ljoin_any e2 (i := x) (p := 0) b2 (.inl rfl) (by have := hI2.two; omega) b1 (by omega) ⟨by omega, by have : ([] ++ q).length = q.length := rfl; omega⟩).mono ?_
  rintro e w3 ⟨rfl, e3, t3⟩
  go_wp2
  go_end0
  exact ⟨rfl, e3, t2.trans (t3.mono fun b _ e => .inl e)⟩
/-- An LRU by its keys, where nobody walks: P on probation, Q protected; at most N keys were ever added; its blocks are among f. -/
structure LV (X : Nat) (most : Int) (P Q : List Int) (N : Nat) (f : Nat → Prop) (W : World) : Prop where
  ex : ∃ S L wv p q, LruE X S L wv W ∧ Lr.InvF S p q [] N ∧ S.most = most ∧ P = p.map (fun i => (Lr.rat S.T.rows i).k) ∧ Q = q.map (fun i => (Lr.rat S.T.rows i).k) ∧ (q.length : Int) ≤ most ∧ L.n ≤ N ∧
    OwnK encI1 1 105 0 wv [] W ∧ f L.M ∧ f L.R ∧ (∀ g, L.sv.ownBlock = some g → f g) ∧ (∀ g, wv.ownBlock = some g → f g)
  fX : f X
  fb : ∀ k, f k → k < W.heap.size
variable {most : Int} {P Q : List Int} {N : Nat} {f : Nat → Prop}
theorem LV.below (h : LV X most P Q N f w) (hb : Below w.heap.size w w') : LV X most P Q N f w' := by
  obtain ⟨S, L, wv, p, q, h1, h2, h3, h4, h5, h6, h7, h8, h9⟩ := h.ex
  exact ⟨⟨S, L, wv, p, q, h1.below hb, h2, h3, h4, h5, h6, h7, ownK_below h8 hb, h9⟩, h.fX, fun k e => Nat.lt_of_lt_of_le (h.fb k e) hb.size⟩
theorem LV.wide {g : Nat → Prop} (h : LV X most P Q N f w) (hf : ∀ k, f k → g k) (hg : ∀ k, g k → k < w.heap.size) : LV X most P Q N g w := by
  obtain ⟨S, L, wv, p, q, h1, h2, h3, h4, h5, h6, h7, h8, h9, h10, h11, h12⟩ := h.ex
  exact ⟨⟨S, L, wv, p, q, h1, h2, h3, h4, h5, h6, h7, h8, hf _ h9, hf _ h10, fun g e => hf _ (h11 g e), fun g e => hf _ (h12 g e)⟩, hf _ h.fX, hg⟩
theorem LV.more {N' : Nat} (h : LV X most P Q N f w) (hN : N ≤ N') : LV X most P Q N' f w := by
  obtain ⟨S, L, wv, p, q, h1, h2, h3, h4, h5, h6, h7, h8⟩ := h.ex
  exact ⟨⟨S, L, wv, p, q, h1, ⟨h2.two, by have := h2.len; omega, h2.cnt0, h2.cnt1, h2.adj, h2.nd, h2.lt, h2.a0, h2.a1, h2.g, h2.wf⟩, h3, h4, h5, h6, by omega, h8⟩, h.fX, h.fb⟩
/-- Its keys stand there once. -/
theorem LV.nodup (h : LV X most P Q N f w) : (P ++ Q).Nodup := by
  obtain ⟨S, L, wv, p, q, h1, h2, h3, rfl, rfl, h6⟩ := h.ex
  rw [← List.map_append]
  have hnd := h2.nd
  have hpq : (p ++ q).Nodup := (List.nodup_cons.1 (List.nodup_cons.1 hnd).2).2.sublist (by rw [← List.append_assoc]; exact List.sublist_append_left _ _)
  refine (List.pairwise_map.2 (hpq.imp_of_mem fun {a b} ha hb hne e => hne ?_))
  have e1 := (h2.g (Lr.rat S.T.rows a).k a).2 ⟨by simpa using ha, rfl⟩
  have e2 := (h2.g (Lr.rat S.T.rows a).k b).2 ⟨by simpa using hb, e.symm⟩
  rw [e1] at e2
  cases e2
  rfl
end
end Go.Proofs.Ytchlemajppnehaa

/- An LRU's calls, by its keys: Add, Len. -/
set_option maxRecDepth 100000
namespace Go.Proofs.Ytchlemajppnehaa
open Go Go.RowKit Go.Shelf Go.Maps
theorem qLru (w : World) (a : Addr) : (binOp .eql 44 (.pointer (some a)) (.pointer none)).run Try.prog w = .ok (.bool false) w := by kernel_rfl
theorem qLru0 (w : World) : (binOp .eql 44 (.pointer none) (.pointer none)).run Try.prog w = .ok (.bool true) w := by kernel_rfl
theorem Lr.InvF.mem_iff {S : Lr.St} {p q : List Nat} {N : Nat} (h : Lr.InvF S p q [] N) (k : Int) : (S.T.g k).isSome = true ↔ k ∈ p.map (fun i => (Lr.rat S.T.rows i).k) ++ q.map (fun i => (Lr.rat S.T.rows i).k) := by
  rw [← List.map_append, List.mem_map, Option.isSome_iff_exists]
  constructor
  · rintro ⟨i, hi⟩
    have := (h.g k i).1 hi
    exact ⟨i, by simpa using this.1, this.2⟩
  · rintro ⟨i, hi, rfl⟩
    exact ⟨i, (h.g _ i).2 ⟨by simpa using hi, rfl⟩⟩
section
variable {X : Nat} {w w' : World} {most : Int} {P Q : List Int} {N : Nat} {f : Nat → Prop}
set_option maxHeartbeats 1000000 in
theorem ladd_has (h : LV X most P Q N f w) {k : Int} (hk : I64 k) (hm : k ∈ P ++ Q) :
    Calls Try.prog 32 #[.pointer (some ⟨X, 0, none⟩), .int .i64 k] w fun e w' => e = .returned (.tuple #[]) ∧ Below w.heap.size w w' := by
  obtain ⟨S, L, wv, p, q, h1, h2, h3, rfl, rfl, h6⟩ := h.ex
  have hs := (h2.mem_iff k).2 hm
  obtain ⟨bx, ht, _⟩ := h1.ex
  have q1 := qLru
  go_enter Try.func32, Try.ntmps32
  go_wp2_with fail
  refine (takesS ht k hk).mono ?_
  rintro e w1 ⟨rfl, b1⟩
  go_wp2_with fail
  refine (lfind_any (h1.below b1) hk).mono ?_
  rintro e w2 ⟨rfl, b2⟩
  rw [hs]
  go_wp2
  refine bodyPost_ret (results_none rfl _ _ _) rfl ?_
  exact ⟨rfl, below_trans b1 b2⟩
/-- A table's change within an LRU. -/
theorem LruE.tab {S : Lr.St} {L : TL} {wv : Value} {bx : List Value} {d : Nat} {T' : Tb.Tab} (hx : bx[0]? = some (.int .i64 S.most) ∧ bx[1]? = some (encI S.c0) ∧ bx[2]? = some (encI S.c1) ∧ bx[6]? = some wv) (h : TabTo tS X 3 tLru bx L w d T' w') :
    ∃ L', LruE X { S with T := T' } L' wv w' ∧ Trn (fun b => b = X ∨ b = L.M ∨ b = L.R ∨ L.sv.ownBlock = some b) w w' ∧ L'.M = L.M ∧ L'.n ≤ L.n + d ∧ (L'.R = L.R ∨ w.heap.size ≤ L'.R) ∧ (∀ g, L'.sv.ownBlock = some g → L.sv.ownBlock = some g ∨ w.heap.size ≤ g) := by
  obtain ⟨L', bx', h1, h2, h3, h4, h5, h6, _, h7⟩ := h.ex
  exact ⟨L', ⟨bx', h1, (h7 0 (by omega) (by omega)).trans hx.1, (h7 1 (by omega) (by omega)).trans hx.2.1, (h7 2 (by omega) (by omega)).trans hx.2.2.1, (h7 6 (by omega) (by omega)).trans hx.2.2.2⟩, h2, h3, h4, h5, h6⟩
set_option maxHeartbeats 2000000 in
theorem ladd_new (h : LV X most P Q N f w) {k : Int} (hk : I64 k) (hm : k ∉ P ++ Q) (hN : N < 80000) :
    Calls Try.prog 32 #[.pointer (some ⟨X, 0, none⟩), .int .i64 k] w fun e w' => e = .returned (.tuple #[]) ∧ Trn f w w' ∧ LV X most (P ++ [k]) Q (N + 1) (grow f w w') w' := by
  obtain ⟨S, L, wv, p, q, h1, h2, h3, rfl, rfl, h6, h7, h8, h9, h10, h11, h12⟩ := h.ex
  have hs : (S.T.g k).isSome = false := by
    cases e : (S.T.g k).isSome with
    | false => rfl
    | true => exact absurd ((h2.mem_iff k).1 e) hm
  have hs0 : S.T.g k = none := by simpa using hs
  obtain ⟨bx, ht, _⟩ := h1.ex
  obtain ⟨ao, cap, hwv, _⟩ := ownK_form h8
  have hwv : wv = .slice ao 0 cap := hwv
  subst hwv
  have hbd := h2.bounds
  have hln := h2.len
  have q1 := qLru
  go_enter Try.func32, Try.ntmps32
  go_wp2_with fail
  refine (takesS ht k hk).mono ?_
  rintro e w1 ⟨rfl, b1⟩
  go_wp2_with fail
  refine (lfind_any (h1.below b1) hk).mono ?_
  rintro e w2 ⟨rfl, b2⟩
  rw [hs]
  go_wp2_with fail
  refine (lpart0 (h1.below (below_trans b1 b2))).mono ?_
  rintro e w3 ⟨rfl, e3, t3⟩
  go_wp2_with fail
  obtain ⟨bx3, ht3, hx3⟩ := e3.ex
  refine (addS ht3 k hk (fun j hj => h2.lt j (by simp [hj])) (by omega) (by omega) (by omega)).mono ?_
  rintro e w4 ⟨rfl, e4⟩
  obtain ⟨L4, e5, t5, m1, m2, m3, m4⟩ := LruE.tab (S := S) hx3 e4
  obtain ⟨hI, hk1, hk2, hl2⟩ := h2.add hk hs0
  obtain ⟨⟨b3, b4⟩, hI2, hk3⟩ := hI.join0
  have hd0 := h2.cnt0
  have hd1 := h2.cnt1
  have hr4 : L4.R < w4.heap.size := by
    obtain ⟨bx, h1, _⟩ := e5.ex
    obtain ⟨c, hc⟩ := own_blk h1.rows
    exact hc.lt
  go_wp2_with fail
  refine (ljoin_any e5 (i := S.T.free) (p := 0) b4 (.inl rfl) (by have := hI.two; exact Nat.lt_of_lt_of_le (by omega) this) b3 (by show (S.T.add k).rows.length < _; omega) ⟨by show S.c0 < _; omega, by show S.c1 < _; omega⟩).mono ?_
  rintro e w5 ⟨rfl, e6, t6⟩
  go_wp2
  go_end0
  have tr : Trn f w w5 := by
    have a1 : Trn f w w2 := Trn.of_below (below_trans b1 b2)
    have hsz := (below_trans b1 b2).size
    have a2 := a1.trans (t3.mono (g := grow f w w2) fun b _ e => .inl (e ▸ h.fX))
    have hsz3 := t3.size
    have a3 := a2.trans (t5.mono (g := grow f w w3) fun b _ e => by
      rcases e with e | e | e | e
      · exact .inl (e ▸ h.fX)
      · exact .inl (e ▸ h9)
      · exact .inl (e ▸ h10)
      · exact .inl (h11 b e))
    refine a3.trans (t6.mono fun b hb e => ?_)
    rcases e with e | e
    · exact .inl (e ▸ h.fX)
    · rcases m3 with m3 | m3
      · exact .inl (by rw [e, m3]; exact h10)
      · exact .inr ⟨by omega, hb⟩
  have hsz := tr.size
  have hsz3 : w.heap.size ≤ w3.heap.size := Nat.le_trans (below_trans b1 b2).size t3.size
  have hsz6 := t6.size
  have hfg : ∀ b, f b → grow f w w5 b := fun b e => .inl e
  refine ⟨rfl, tr, ⟨⟨_, _, _, _, _, e6, hI2, h3, ?_, ?_, h6, by omega, ownK_nil _ _ _ _ _, ?_, ?_, ?_, fun g e => by cases e⟩, .inl h.fX, fun b e => ?_⟩⟩
  · rw [List.map_append]
    congr 1
    · refine List.map_congr_left fun i hi => ?_
      rw [hk3 i]
      exact (hk2 i (List.mem_append_left _ hi)).symm
    · exact (congrArg (fun z => [z]) ((hk3 _).trans hk1)).symm
  · refine List.map_congr_left fun i hi => ?_
    rw [hk3 i]
    exact (hk2 i (List.mem_append_right _ hi)).symm
  · exact .inl (m1 ▸ h9)
  · rcases m3 with m3 | m3
    · exact .inl (m3 ▸ h10)
    · exact .inr ⟨by omega, by omega⟩
  · intro g e
    rcases m4 g e with m4 | m4
    · exact .inl (h11 g m4)
    · obtain ⟨bx, h1, _⟩ := e6.ex
      obtain ⟨c, hc⟩ := own_blk' h1.spare e
      exact .inr ⟨by omega, hc.lt⟩
  · rcases e with e | e
    · exact Nat.lt_of_lt_of_le (h.fb b e) hsz
    · exact e.2
end
end Go.Proofs.Ytchlemajppnehaa

/- An LRU's calls, by its keys: Touch, Drop, Len. -/
set_option maxRecDepth 100000
namespace Go.Proofs.Ytchlemajppnehaa
open Go Go.RowKit Go.Shelf Go.Maps
section
variable {X : Nat} {w w' : World} {most : Int} {P Q : List Int} {N : Nat} {f : Nat → Prop}
set_option maxHeartbeats 1000000 in
theorem ltouch_no (h : LV X most P Q N f w) {k : Int} (hk : I64 k) (hm : k ∉ P ++ Q) :
    Calls Try.prog 33 #[.pointer (some ⟨X, 0, none⟩), .int .i64 k] w fun e w' => e = .returned (.bool false) ∧ Below w.heap.size w w' := by
  obtain ⟨S, L, wv, p, q, h1, h2, h3, rfl, rfl, h6⟩ := h.ex
  have hs : (S.T.g k).isSome = false := by
    cases e : (S.T.g k).isSome with
    | false => rfl
    | true => exact absurd ((h2.mem_iff k).1 e) hm
  go_enter Try.func33, Try.ntmps33
  go_wp2_with fail
  refine (lfind_any h1 hk).mono ?_
  rintro e w2 ⟨rfl, b2⟩
  rw [hs]
  go_wp2
  go_ret
  exact ⟨rfl, b2⟩
set_option maxHeartbeats 1000000 in
theorem ldrop_no (h : LV X most P Q N f w) {k : Int} (hk : I64 k) (hm : k ∉ P ++ Q) :
    Calls Try.prog 38 #[.pointer (some ⟨X, 0, none⟩), .int .i64 k] w fun e w' => e = .returned (.bool false) ∧ Below w.heap.size w w' := by
  obtain ⟨S, L, wv, p, q, h1, h2, h3, rfl, rfl, h6⟩ := h.ex
  have hs : (S.T.g k).isSome = false := by
    cases e : (S.T.g k).isSome with
    | false => rfl
    | true => exact absurd ((h2.mem_iff k).1 e) hm
  go_enter Try.func38, Try.ntmps38
  go_wp2_with fail
  refine (lfind_any h1 hk).mono ?_
  rintro e w2 ⟨rfl, b2⟩
  rw [hs]
  go_wp2
  go_ret
  exact ⟨rfl, b2⟩
theorem llen_any (h : LV X most P Q N f w) (_hN : N < 80000) :
    Calls Try.prog 34 #[.pointer (some ⟨X, 0, none⟩)] w fun e w' => e = .returned (.tuple #[.int .i64 (P.length : Int), .int .i64 (Q.length : Int)]) ∧ ∃ n, w' = w.drewN n := by
  obtain ⟨S, L, wv, p, q, h1, h2, h3, rfl, rfl, h6⟩ := h.ex
  obtain ⟨_, q1, q2, _⟩ := h1.cells
  rw [h2.cnt0] at q1
  rw [h2.cnt1] at q2
  have qq := qLru
  simp only [List.length_map]
  unfold encI at q1 q2
  go_enter Try.func34, Try.ntmps34
  go_wp2
  go_region
  go_wp2
  go_ret2
  exact ⟨rfl, 1, rfl⟩
/-- An LRU that a call has left, whose blocks are where they were. -/
theorem LV.fin {S' : Lr.St} {L : TL} {p' q' : List Nat} {P' Q' : List Int} (hE : LruE X S' L (.slice none 0 0) w') (hI : Lr.InvF S' p' q' [] N) (hm : S'.most = most) (hP : P' = p'.map (fun i => (Lr.rat S'.T.rows i).k)) (hQ : Q' = q'.map (fun i => (Lr.rat S'.T.rows i).k)) (hle : (q'.length : Int) ≤ most)
    (hn : L.n ≤ N) (fX : f X) (fM : f L.M) (fR : f L.R) (fs : ∀ g, L.sv.ownBlock = some g → f g) (fb : ∀ k, f k → k < w.heap.size) (t : Trn f w w') : LV X most P' Q' N (grow f w w') w' :=
  ⟨⟨S', L, _, p', q', hE, hI, hm, hP, hQ, hle, hn, ownK_nil _ _ _ _ _, .inl fM, .inl fR, fun g e => .inl (fs g e), fun g e => by cases e⟩, .inl fX, fun b e => e.elim (fun e => Nat.lt_of_lt_of_le (fb b e) t.size) (fun e => e.2)⟩
theorem erase_mid {l1 l2 : List Int} {k : Int} (h : (l1 ++ k :: l2).Nodup) : (l1 ++ k :: l2).erase k = l1 ++ l2 := by
  have hk : k ∉ l1 := fun e => (List.nodup_append.1 h).2.2 k e k (List.mem_cons_self) rfl
  rw [List.erase_append_right _ hk, List.erase_cons_head]
set_option maxHeartbeats 2000000 in
theorem ltouch_Q (h : LV X most P Q N f w) {k : Int} (hk : I64 k) (hm : k ∈ Q) (hN : N < 80000) :
    Calls Try.prog 33 #[.pointer (some ⟨X, 0, none⟩), .int .i64 k] w fun e w' => e = .returned (.bool true) ∧ Trn f w w' ∧ LV X most P (Q.erase k ++ [k]) N (grow f w w') w' := by
  have hnd := h.nodup
  obtain ⟨S, L, wv, p, q, h1, h2, h3, rfl, rfl, h6, h7, h8, h9, h10, h11, h12⟩ := h.ex
  obtain ⟨x, hx, rfl⟩ := List.mem_map.1 hm
  have hgx : S.T.g (Lr.rat S.T.rows x).k = some x := (h2.g _ _).2 ⟨by simp [hx], rfl⟩
  obtain ⟨q1, q2, rfl⟩ := List.append_of_mem hx
  obtain ⟨ao, cap, hwv, _⟩ := ownK_form h8
  have hwv : wv = .slice ao 0 cap := hwv
  subst hwv
  have hbd := h2.bounds
  have hln := h2.len
  have hc0 := h2.cnt0
  have hc1 := h2.cnt1
  obtain ⟨⟨a1, a2, a3, a4, a5⟩, hI2, hk2⟩ := Lr.InvF.leave1 h2
  obtain ⟨⟨b1, b2⟩, hI3, hk3⟩ := hI2.join1
  have hlen2 := hI2.len
  have hb2 := hI2.bounds
  have hd0 := hI2.cnt0
  have hd1 := hI2.cnt1
  have htwo := hI2.two
  have he0 := hI3.cnt0
  have he1 := hI3.cnt1
  simp only [List.length_append, List.length_cons, List.length_nil] at h6 hc1 hd1 he1 hbd hb2
  go_enter Try.func33, Try.ntmps33
  go_wp2_with fail
  refine (lfind_any h1 hk).mono ?_
  rintro e w2 ⟨rfl, t2⟩
  rw [hgx]
  go_wp2_with fail
  refine (lpart0 (h1.below t2)).mono ?_
  rintro e w3 ⟨rfl, e3, t3⟩
  go_wp2_with fail
  refine (lleave_any e3 a1 a2 a3 (.inr ⟨a4, a5⟩) (by omega) ⟨by omega, by omega⟩).mono ?_
  rintro e w4 ⟨rfl, e4, t4⟩
  go_wp2_with fail
  refine (ljoin_any e4 (i := x) (p := 1) b2 (.inr rfl) (by omega) b1 (by omega) ⟨by omega, by omega⟩).mono ?_
  rintro e w5 ⟨rfl, e5, t5⟩
  obtain ⟨r0, r1, r2, _⟩ := e5.cells
  rw [he1] at r2
  replace r0 : w5.cell? ⟨X, 0, none⟩ = some (.int .i64 S.most) := r0
  replace r2 : w5.cell? ⟨X, 2, none⟩ = some (.int .i64 ((q1.length + q2.length + (0 + 1) : Nat) : Int)) := r2
  rw [h3] at r0
  have hle : ((q1.length + q2.length + (0 + 1) : Nat) : Int) ≤ most := by omega
  have HLE := Lib.hid hle
  generalize hmm : (q1.length + q2.length + (0 + 1) : Nat) = m at *
  have HM := Lib.hid hmm
  clear hmm
  go_wp2_with fail
  go_region
  go_wp2
  go_ret
  have tr : Trn f w (w5.drewN 1) := by
    have s1 : Trn f w w2 := Trn.of_below t2
    have s2 := s1.trans (t3.mono (g := grow f w w2) fun b _ e => .inl (e ▸ h.fX))
    have s3 := s2.trans (t4.mono (g := grow f w w3) fun b _ e => .inl (e.elim (fun e => e ▸ h.fX) (fun e => e ▸ h10)))
    have s4 := s3.trans (t5.mono (g := grow f w w4) fun b _ e => .inl (e.elim (fun e => e ▸ h.fX) (fun e => e ▸ h10)))
    exact s4.trans (Trn.drew _ 1)
  have hQ := (List.nodup_append.1 hnd).2.1
  rw [List.map_append, List.map_cons] at hQ
  refine ⟨rfl, tr, LV.fin (e5.same rfl) hI3 h3 ?_ ?_ ?_ h7 h.fX h9 h10 h11 h.fb tr⟩
  · exact List.map_congr_left fun i _ => ((hk3 i).trans (hk2 i)).symm
  · rw [List.map_append, List.map_cons, erase_mid hQ, List.map_append, List.map_append]
    congr 1
    · congr 1
      · exact List.map_congr_left fun i _ => ((hk3 i).trans (hk2 i)).symm
      · exact List.map_congr_left fun i _ => ((hk3 i).trans (hk2 i)).symm
    · exact (congrArg (fun z => [z]) ((hk3 _).trans (hk2 _))).symm
  · have := HLE.out
    have hm2 := HM.out
    rw [List.length_append, List.length_append, List.length_singleton]; omega
set_option maxHeartbeats 2000000 in
/-- Who is on probation is used, and there is room. -/
theorem ltouch_P (h : LV X most P Q N f w) {k : Int} (hk : I64 k) (hm : k ∈ P) (hN : N < 80000) (hroom : ((Q.length + 1 : Nat) : Int) ≤ most) :
    Calls Try.prog 33 #[.pointer (some ⟨X, 0, none⟩), .int .i64 k] w fun e w' => e = .returned (.bool true) ∧ Trn f w w' ∧ LV X most (P.erase k) (Q ++ [k]) N (grow f w w') w' := by
  have hnd := h.nodup
  obtain ⟨S, L, wv, p, q, h1, h2, h3, rfl, rfl, h6, h7, h8, h9, h10, h11, h12⟩ := h.ex
  obtain ⟨x, hx, rfl⟩ := List.mem_map.1 hm
  have hgx : S.T.g (Lr.rat S.T.rows x).k = some x := (h2.g _ _).2 ⟨by simp [hx], rfl⟩
  obtain ⟨p1, p2, rfl⟩ := List.append_of_mem hx
  obtain ⟨ao, cap, hwv, _⟩ := ownK_form h8
  have hwv : wv = .slice ao 0 cap := hwv
  subst hwv
  have hbd := h2.bounds
  have hln := h2.len
  have hc0 := h2.cnt0
  have hc1 := h2.cnt1
  obtain ⟨⟨a1, a2, a3, a4, a5⟩, hI2, hk2⟩ := Lr.InvF.leave0 h2
  obtain ⟨⟨b1, b2⟩, hI3, hk3⟩ := hI2.join1
  have hlen2 := hI2.len
  have hb2 := hI2.bounds
  have hd0 := hI2.cnt0
  have hd1 := hI2.cnt1
  have htwo := hI2.two
  have he0 := hI3.cnt0
  have he1 := hI3.cnt1
  simp only [List.length_append, List.length_cons, List.length_nil, List.length_map] at h6 hc0 hc1 hd0 hd1 he0 he1 hbd hb2 hroom
  go_enter Try.func33, Try.ntmps33
  go_wp2_with fail
  refine (lfind_any h1 hk).mono ?_
  rintro e w2 ⟨rfl, t2⟩
  rw [hgx]
  go_wp2_with fail
  refine (lpart0 (h1.below t2)).mono ?_
  rintro e w3 ⟨rfl, e3, t3⟩
  go_wp2_with fail
  refine (lleave_any e3 a1 a2 a3 (.inl ⟨a4, a5⟩) (by omega) ⟨by omega, by omega⟩).mono ?_
  rintro e w4 ⟨rfl, e4, t4⟩
  go_wp2_with fail
  refine (ljoin_any e4 (i := x) (p := 1) b2 (.inr rfl) (by omega) b1 (by omega) ⟨by omega, by omega⟩).mono ?_
  rintro e w5 ⟨rfl, e5, t5⟩
  obtain ⟨r0, r1, r2, _⟩ := e5.cells
  rw [he1] at r2
  replace r0 : w5.cell? ⟨X, 0, none⟩ = some (.int .i64 S.most) := r0
  replace r2 : w5.cell? ⟨X, 2, none⟩ = some (.int .i64 ((q.length + (0 + 1) : Nat) : Int)) := r2
  rw [h3] at r0
  have hle : ((q.length + (0 + 1) : Nat) : Int) ≤ most := by omega
  have tr5 : Trn f w w5 := by
    have s1 : Trn f w w2 := Trn.of_below t2
    have s2 := s1.trans (t3.mono (g := grow f w w2) fun b _ e => .inl (e ▸ h.fX))
    have s3 := s2.trans (t4.mono (g := grow f w w3) fun b _ e => .inl (e.elim (fun e => e ▸ h.fX) (fun e => e ▸ h10)))
    exact s3.trans (t5.mono (g := grow f w w4) fun b _ e => .inl (e.elim (fun e => e ▸ h.fX) (fun e => e ▸ h10)))
  have HLE := Lib.hid hle
  generalize hmm : (q.length + (0 + 1) : Nat) = m at *
  have HM := Lib.hid hmm
  clear hmm
  go_wp2_with fail
  go_region
  go_wp2
  go_ret
  have tr : Trn f w (w5.drewN 1) := tr5.trans (Trn.drew _ 1)
  have hP := (List.nodup_append.1 hnd).1
  rw [List.map_append, List.map_cons] at hP
  refine ⟨rfl, tr, LV.fin (e5.same rfl) hI3 h3 ?_ ?_ ?_ h7 h.fX h9 h10 h11 h.fb tr⟩
  · rw [List.map_append, List.map_cons, erase_mid hP, List.map_append]
    congr 1
    · exact List.map_congr_left fun i _ => ((hk3 i).trans (hk2 i)).symm
    · exact List.map_congr_left fun i _ => ((hk3 i).trans (hk2 i)).symm
  · rw [List.map_append]
    congr 1
    · exact List.map_congr_left fun i _ => ((hk3 i).trans (hk2 i)).symm
    · exact (congrArg (fun z => [z]) ((hk3 _).trans (hk2 _))).symm
  · have := HLE.out
    have hm2 := HM.out
    rw [List.length_append, List.length_singleton]; omega
set_option maxHeartbeats 2000000 in
/-- Who is on probation is used, and the oldest protected one makes room. -/
theorem ltouch_full (h : LV X most P Q N f w) {k : Int} (hk : I64 k) (hm : k ∈ P) (hN : N < 80000) {y : Int} {Y : List Int} (hQY : Q ++ [k] = y :: Y) (hroom : most < ((Q.length + 1 : Nat) : Int)) :
    Calls Try.prog 33 #[.pointer (some ⟨X, 0, none⟩), .int .i64 k] w fun e w' => e = .returned (.bool true) ∧ Trn f w w' ∧ LV X most (P.erase k ++ [y]) Y N (grow f w w') w' := by
  have hnd := h.nodup
  obtain ⟨S, L, wv, p, q, h1, h2, h3, rfl, rfl, h6, h7, h8, h9, h10, h11, h12⟩ := h.ex
  obtain ⟨x, hx, rfl⟩ := List.mem_map.1 hm
  have hgx : S.T.g (Lr.rat S.T.rows x).k = some x := (h2.g _ _).2 ⟨by simp [hx], rfl⟩
  obtain ⟨p1, p2, rfl⟩ := List.append_of_mem hx
  obtain ⟨ao, cap, hwv, _⟩ := ownK_form h8
  have hwv : wv = .slice ao 0 cap := hwv
  subst hwv
  have hbd := h2.bounds
  have hln := h2.len
  have hc0 := h2.cnt0
  have hc1 := h2.cnt1
  obtain ⟨⟨a1, a2, a3, a4, a5⟩, hI2, hk2⟩ := Lr.InvF.leave0 h2
  obtain ⟨⟨b1, b2⟩, hI3, hk3⟩ := hI2.join1
  have hlen2 := hI2.len
  have hb2 := hI2.bounds
  have hd0 := hI2.cnt0
  have hd1 := hI2.cnt1
  have htwo := hI2.two
  have he0 := hI3.cnt0
  have he1 := hI3.cnt1
  simp only [List.length_append, List.length_cons, List.length_nil, List.length_map] at h6 hc0 hc1 hd0 hd1 he0 he1 hbd hb2 hroom
  go_enter Try.func33, Try.ntmps33
  go_wp2_with fail
  refine (lfind_any h1 hk).mono ?_
  rintro e w2 ⟨rfl, t2⟩
  rw [hgx]
  go_wp2_with fail
  refine (lpart0 (h1.below t2)).mono ?_
  rintro e w3 ⟨rfl, e3, t3⟩
  go_wp2_with fail
  refine (lleave_any e3 a1 a2 a3 (.inl ⟨a4, a5⟩) (by omega) ⟨by omega, by omega⟩).mono ?_
  rintro e w4 ⟨rfl, e4, t4⟩
  go_wp2_with fail
  refine (ljoin_any e4 (i := x) (p := 1) b2 (.inr rfl) (by omega) b1 (by omega) ⟨by omega, by omega⟩).mono ?_
  rintro e w5 ⟨rfl, e5, t5⟩
  obtain ⟨r0, r1, r2, _⟩ := e5.cells
  rw [he1] at r2
  replace r0 : w5.cell? ⟨X, 0, none⟩ = some (.int .i64 S.most) := r0
  replace r2 : w5.cell? ⟨X, 2, none⟩ = some (.int .i64 ((q.length + (0 + 1) : Nat) : Int)) := r2
  rw [h3] at r0
  have hle : ¬ ((q.length + (0 + 1) : Nat) : Int) ≤ most := by omega
  have hgt : most < ((q.length + (0 + 1) : Nat) : Int) := by omega
  have tr5 : Trn f w w5 := by
    have s1 : Trn f w w2 := Trn.of_below t2
    have s2 := s1.trans (t3.mono (g := grow f w w2) fun b _ e => .inl (e ▸ h.fX))
    have s3 := s2.trans (t4.mono (g := grow f w w3) fun b _ e => .inl (e.elim (fun e => e ▸ h.fX) (fun e => e ▸ h10)))
    exact s3.trans (t5.mono (g := grow f w w4) fun b _ e => .inl (e.elim (fun e => e ▸ h.fX) (fun e => e ▸ h10)))
  obtain ⟨z, Z, hzZ⟩ : ∃ z Z, q ++ [x] = z :: Z := by cases q <;> exact ⟨_, _, rfl⟩
  rw [hzZ] at hI3
  have HZ := Lib.hid hzZ
  have HQY := Lib.hid hQY
  have hZlen : Z.length = q.length := by have := congrArg List.length hzZ; simpa using this.symm
  have HZL := Lib.hid hZlen
  clear hzZ hQY hZlen
  generalize hmm : (q.length + (0 + 1) : Nat) = m at *
  have HM := Lib.hid hmm
  clear hmm
  go_wp2_with fail
  go_region
  go_wp2_with fail
  refine (ldemote_any (e5.same (w' := w5.drew) rfl) hI3 (by omega)).mono ?_
  rintro e w6 ⟨rfl, e6, t6⟩
  go_wp2
  go_ret
  obtain ⟨⟨c1, c2, c3, c4, c5⟩, hI4, hk4⟩ := Lr.InvF.leave1 (q1 := []) hI3
  obtain ⟨⟨d1, d2⟩, hI5, hk5⟩ := hI4.join0
  have tr : Trn f w w6 := (tr5.trans (Trn.drew _ 1)).trans (t6.mono fun b _ e => .inl (e.elim (fun e => e ▸ h.fX) (fun e => e ▸ h10)))
  have hkk : ∀ i, (Lr.rat ((((S.leave x).join x 1).leave z).join z 0).T.rows i).k = (Lr.rat S.T.rows i).k := fun i => (hk5 i).trans ((hk4 i).trans ((hk3 i).trans (hk2 i)))
  have hzz := HZ.out
  have hqq := HQY.out
  have hmap := congrArg (List.map (fun i => (Lr.rat S.T.rows i).k)) hzz
  rw [List.map_append, List.map_cons, List.map_nil, hqq, List.map_cons] at hmap
  injection hmap with hy hY
  have hP := (List.nodup_append.1 hnd).1
  rw [List.map_append, List.map_cons] at hP
  refine ⟨rfl, tr, LV.fin e6 hI5 h3 ?_ ?_ ?_ h7 h.fX h9 h10 h11 h.fb tr⟩
  · rw [List.map_append, List.map_cons, erase_mid hP, List.map_append, List.map_append]
    congr 1
    · congr 1
      · exact List.map_congr_left fun i _ => (hkk i).symm
      · exact List.map_congr_left fun i _ => (hkk i).symm
    · rw [hy]; exact (congrArg (fun z => [z]) (hkk _)).symm
  · rw [hY]
    exact List.map_congr_left fun i _ => (hkk i).symm
  · have := HZL.out
    rw [List.nil_append, this]; omega
set_option maxHeartbeats 2000000 in
/-- One is dropped. -/
theorem ldrop_has (h : LV X most P Q N f w) {k : Int} (hk : I64 k) (hm : k ∈ P ++ Q) (hN : N < 80000) :
    Calls Try.prog 38 #[.pointer (some ⟨X, 0, none⟩), .int .i64 k] w fun e w' => e = .returned (.bool true) ∧ Trn f w w' ∧ LV X most (P.erase k) (Q.erase k) N (grow f w w') w' := by
  have hnd := h.nodup
  obtain ⟨S, L, wv, p, q, h1, h2, h3, rfl, rfl, h6, h7, h8, h9, h10, h11, h12⟩ := h.ex
  obtain ⟨x, hx, rfl⟩ : ∃ x, x ∈ p ++ q ∧ (Lr.rat S.T.rows x).k = k := by
    rw [← List.map_append] at hm
    exact List.mem_map.1 hm
  have hgx : S.T.g (Lr.rat S.T.rows x).k = some x := (h2.g _ _).2 ⟨by simpa using hx, rfl⟩
  obtain ⟨ao, cap, hwv, _⟩ := ownK_form h8
  have hwv : wv = .slice ao 0 cap := hwv
  subst hwv
  have hbd := h2.bounds
  have hln := h2.len
  have hc0 := h2.cnt0
  have hc1 := h2.cnt1
  obtain ⟨p', q', hPe, hQe, hql, ⟨a1, a2, a3, a4⟩, hI2, hk2⟩ : ∃ p' q', (List.map (fun i => (Lr.rat S.T.rows i).k) p).erase (Lr.rat S.T.rows x).k = List.map (fun i => (Lr.rat S.T.rows i).k) p' ∧ (List.map (fun i => (Lr.rat S.T.rows i).k) q).erase (Lr.rat S.T.rows x).k = List.map (fun i => (Lr.rat S.T.rows i).k) q' ∧ q'.length ≤ q.length ∧
      (x < S.T.rows.length ∧ (Lr.rat S.T.rows x).b < S.T.rows.length ∧ (Lr.rat S.T.rows x).c < S.T.rows.length ∧ (((Lr.rat S.T.rows x).a = 0 ∧ 0 < S.c0) ∨ ((Lr.rat S.T.rows x).a = 1 ∧ 0 < S.c1))) ∧ Lr.InvF (S.leave x) p' q' [x] N ∧ ∀ i, (Lr.rat (S.leave x).T.rows i).k = (Lr.rat S.T.rows i).k := by
    have hd := (List.nodup_append.1 hnd).2.2
    rcases List.mem_append.1 hx with hx | hx
    · obtain ⟨p1, p2, rfl⟩ := List.append_of_mem hx
      obtain ⟨⟨a1, a2, a3, a4, a5⟩, hI2, hk2⟩ := Lr.InvF.leave0 h2
      have hP := (List.nodup_append.1 hnd).1
      rw [List.map_append, List.map_cons] at hP
      refine ⟨p1 ++ p2, q, by rw [List.map_append, List.map_cons, erase_mid hP, List.map_append], List.erase_of_not_mem fun e => ?_, Nat.le_refl _, ⟨a1, a2, a3, .inl ⟨a4, a5⟩⟩, hI2, hk2⟩
      exact hd _ (List.mem_map.2 ⟨x, hx, rfl⟩) _ e rfl
    · obtain ⟨q1, q2, rfl⟩ := List.append_of_mem hx
      obtain ⟨⟨a1, a2, a3, a4, a5⟩, hI2, hk2⟩ := Lr.InvF.leave1 h2
      have hQ := (List.nodup_append.1 hnd).2.1
      rw [List.map_append, List.map_cons] at hQ
      refine ⟨p, q1 ++ q2, List.erase_of_not_mem fun e => ?_, by rw [List.map_append, List.map_cons, erase_mid hQ, List.map_append], by simp, ⟨a1, a2, a3, .inr ⟨a4, a5⟩⟩, hI2, hk2⟩
      exact hd _ e _ (List.mem_map.2 ⟨x, hx, rfl⟩) rfl
  obtain ⟨b1, b2, hI3, hk3⟩ := hI2.drop
  have hb2 := hI2.bounds
  have hlen2 := hI2.len
  go_enter Try.func38, Try.ntmps38
  go_wp2_with fail
  refine (lfind_any h1 hk).mono ?_
  rintro e w2 ⟨rfl, t2⟩
  rw [hgx]
  go_wp2_with fail
  refine (lpart0 (h1.below t2)).mono ?_
  rintro e w3 ⟨rfl, e3, t3⟩
  go_wp2_with fail
  refine (lleave_any e3 a1 a2 a3 a4 (by omega) ⟨by omega, by omega⟩).mono ?_
  rintro e w4 ⟨rfl, e4, t4⟩
  obtain ⟨bx4, ht4, hx4⟩ := e4.ex
  go_wp2_with fail
  refine (dropS ht4 (i := x) b1 b2 (by omega)).mono ?_
  rintro e w5 ⟨rfl, e5⟩
  obtain ⟨L5, e6, t6, m1, m2, m3, m4⟩ := LruE.tab (S := S.leave x) hx4 e5
  go_wp2
  go_ret
  have tr : Trn f w w5 := by
    have s1 : Trn f w w2 := Trn.of_below t2
    have s2 := s1.trans (t3.mono (g := grow f w w2) fun b _ e => .inl (e ▸ h.fX))
    have s3 := s2.trans (t4.mono (g := grow f w w3) fun b _ e => .inl (e.elim (fun e => e ▸ h.fX) (fun e => e ▸ h10)))
    exact s3.trans (t6.mono (g := grow f w w4) fun b _ e => by
      rcases e with e | e | e | e
      · exact .inl (e ▸ h.fX)
      · exact .inl (e ▸ h9)
      · exact .inl (e ▸ h10)
      · exact .inl (h11 b e))
  have hsz4 : w.heap.size ≤ w4.heap.size := Nat.le_trans t2.size (Nat.le_trans t3.size t4.size)
  have hmap : ∀ l : List Nat, (∀ i ∈ l, i ∈ p' ++ q') → List.map (fun i => (Lr.rat S.T.rows i).k) l = List.map (fun i => (Lr.rat ((S.leave x).T.drop x).rows i).k) l := fun l hl => List.map_congr_left fun i hi => ((hk3 i (hl i hi)).trans (hk2 i)).symm
  refine ⟨rfl, tr, ⟨⟨_, L5, _, p', q', e6, hI3, h3, by rw [hPe]; exact hmap p' (fun i hi => List.mem_append_left _ hi), by rw [hQe]; exact hmap q' (fun i hi => List.mem_append_right _ hi), by omega, ?_, ownK_nil _ _ _ _ _, .inl (m1 ▸ h9), ?_, ?_, fun g e => by cases e⟩, .inl h.fX, fun b e => ?_⟩⟩
  · exact Nat.le_trans m2 h7
  · rcases m3 with m3 | m3
    · exact .inl (m3 ▸ h10)
    · obtain ⟨bx, h1, _⟩ := e6.ex
      obtain ⟨c, hc⟩ := own_blk h1.rows
      exact .inr ⟨by omega, hc.lt⟩
  · intro g e
    rcases m4 g e with m4 | m4
    · exact .inl (h11 g m4)
    · obtain ⟨bx, h1, _⟩ := e6.ex
      obtain ⟨c, hc⟩ := own_blk' h1.spare e
      exact .inr ⟨by omega, hc.lt⟩
  · rcases e with e | e
    · exact Nat.lt_of_lt_of_le (h.fb b e) tr.size
    · exact e.2
end
end Go.Proofs.Ytchlemajppnehaa
