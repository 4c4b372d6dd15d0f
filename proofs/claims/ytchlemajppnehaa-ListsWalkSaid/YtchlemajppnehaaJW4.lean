/- 2 texts put together: Llru, Lrm. -/
import Derived.Deep.RegionWith
import Derived.StillTailTactics
import Derived.Test.YtchlemajppnehaaJW3
/- A ring of seats: link, join, leave, demote, find. -/
set_option maxRecDepth 100000
namespace Go.Proofs.Ytchlemajppnehaa
open Go Go.RowKit Go.Shelf Go.Maps
namespace Lr
open Tb
def rat (rows : List Row) (i : Nat) : Row := rows.getD i zero
def setA (rows : List Row) (i : Nat) (x : Int) : List Row := rows.set i { rat rows i with a := x }
def setB (rows : List Row) (i x : Nat) : List Row := rows.set i { rat rows i with b := x }
def setC (rows : List Row) (i x : Nat) : List Row := rows.set i { rat rows i with c := x }
def link (rows : List Row) (o n : Nat) : List Row := setB (setC rows o n) n o
theorem setA_len (rows : List Row) (i : Nat) (x : Int) : (setA rows i x).length = rows.length := by simp [setA]
theorem setB_len (rows : List Row) (i x : Nat) : (setB rows i x).length = rows.length := by simp [setB]
theorem setC_len (rows : List Row) (i x : Nat) : (setC rows i x).length = rows.length := by simp [setC]
theorem link_len (rows : List Row) (i x : Nat) : (link rows i x).length = rows.length := by simp [link, setB_len, setC_len]
theorem link_at (rows : List Row) {o n i : Nat} (ho : o < rows.length) (hn : n < rows.length) :
    (rat (link rows o n) i).k = (rat rows i).k ∧ (rat (link rows o n) i).a = (rat rows i).a ∧ (rat (link rows o n) i).b = (if i = n then o else (rat rows i).b) ∧ (rat (link rows o n) i).c = (if i = o then n else (rat rows i).c) := by
  unfold link setB setC rat
  simp only [List.getD_eq_getElem?_getD, List.getElem?_set, List.length_set]
  by_cases h1 : n = i <;> by_cases h2 : o = i
  · subst h1 h2; simp [ho]
  · subst h1; simp [hn, h2, Ne.symm h2]
  · subst h2; simp [ho, h1, Ne.symm h1]
  · simp [h1, h2, Ne.symm h1, Ne.symm h2]
theorem setA_at (rows : List Row) {i j : Nat} (hi : i < rows.length) (x : Int) :
    (rat (setA rows i x) j).k = (rat rows j).k ∧ (rat (setA rows i x) j).a = (if j = i then x else (rat rows j).a) ∧ (rat (setA rows i x) j).b = (rat rows j).b ∧ (rat (setA rows i x) j).c = (rat rows j).c := by
  unfold setA rat
  simp only [List.getD_eq_getElem?_getD, List.getElem?_set]
  by_cases h1 : i = j
  · subst h1; simp [hi]
  · simp [h1, Ne.symm h1]
structure St where
  most : Int
  c0 : Nat
  c1 : Nat
  T : Tab
def St.rows (S : St) (r : List Row) : St := { S with T := { S.T with rows := r } }
def ring (rows : List Row) (i p : Nat) : List Row := link (link (setA rows i p) (rat (setA rows i p) p).b i) i p
def St.join (S : St) (i p : Nat) : St := ⟨S.most, if p = 0 then S.c0 + 1 else S.c0, if p = 0 then S.c1 else S.c1 + 1, ⟨ring S.T.rows i p, S.T.spare, S.T.g⟩⟩
def St.leave (S : St) (i : Nat) : St := ⟨S.most, if (rat S.T.rows i).a = 0 then S.c0 - 1 else S.c0, if (rat S.T.rows i).a = 0 then S.c1 else S.c1 - 1, ⟨link S.T.rows (rat S.T.rows i).b (rat S.T.rows i).c, S.T.spare, S.T.g⟩⟩
def St.demote (S : St) : St := (S.leave (rat S.T.rows 0).c).join (rat S.T.rows 0).c 0
end Lr
abbrev tLru : TypeId := 87
/-- An LRU in the box X. -/
structure LruE (X : Nat) (S : Lr.St) (L : TL) (wv : Value) (W : World) : Prop where
  ex : ∃ bx, TabE tS X 3 tLru bx S.T L W ∧ bx[0]? = some (.int .i64 S.most) ∧ bx[1]? = some (encI S.c0) ∧ bx[2]? = some (encI S.c1) ∧ bx[6]? = some wv
section
variable {X : Nat} {S : Lr.St} {L : TL} {wv : Value} {w w' : World}
theorem LruE.below (h : LruE X S L wv w) (hb : Below w.heap.size w w') : LruE X S L wv w' := by
  obtain ⟨bx, h1, h2⟩ := h.ex
  exact ⟨bx, h1.below hb, h2⟩
theorem LruE.same (h : LruE X S L wv w) (hw : w'.heap = w.heap) : LruE X S L wv w' := by
  obtain ⟨bx, h1, h2⟩ := h.ex
  exact ⟨bx, h1.same hw, h2⟩
set_option maxHeartbeats 1000000 in
theorem seat_any (h : LruE X S L wv w) {i : Nat} (hi : i < S.T.rows.length) :
    Calls Try.prog 77 #[.pointer (some ⟨X, 0, none⟩), .int .i64 (i : Int)] w fun e w' => e = .returned (.pointer (some ⟨L.R, i * 4 + 1, none⟩)) ∧ w = w' := by
  obtain ⟨bx, h1, h2⟩ := h.ex
  obtain ⟨c0, c1, c2⟩ := h1.cells
  go_enter Try.func77, Try.ntmps77
  go_wp2
  go_ret
  exact ⟨rfl, rfl⟩
theorem LruE.row (h : LruE X S L wv w) {i : Nat} (hi : i < S.T.rows.length) : w.cell? ⟨L.R, i * 4, none⟩ = some (.int .i64 (Lr.rat S.T.rows i).k) ∧ w.cell? ⟨L.R, i * 4 + 1, none⟩ = some (.int .i64 (Lr.rat S.T.rows i).a) ∧ w.cell? ⟨L.R, i * 4 + 2, none⟩ = some (encI (Lr.rat S.T.rows i).b) ∧ w.cell? ⟨L.R, i * 4 + 3, none⟩ = some (encI (Lr.rat S.T.rows i).c) := by
  obtain ⟨bx, h1, h2⟩ := h.ex
  exact h1.row hi
theorem LruE.rfroz (h : LruE X S L wv w) (i : Nat) : w.frozen? ⟨L.R, i, none⟩ = false := by
  obtain ⟨bx, h1, h2⟩ := h.ex
  exact h1.rfroz i
theorem LruE.set (h : LruE X S L wv w) {i f q : Nat} (hi : i < S.T.rows.length) (hf : f < 4) {u : Value} {r : Tb.Row} (hr : encR r = (encR (Lr.rat S.T.rows i)).set f u) (hq : q = i * 4 + f) :
    LruE X (S.rows (S.T.rows.set i r)) L wv (w.setCell ⟨L.R, q, none⟩ u) ∧ Trn (fun b => b = L.R) w (w.setCell ⟨L.R, q, none⟩ u) := by
  obtain ⟨bx, h1, h2⟩ := h.ex
  obtain ⟨c, hc⟩ := own_blk h1.rows
  exact ⟨⟨bx, h1.set hi hf hr hq, h2⟩, Trn.set1 hc q u⟩
set_option maxHeartbeats 1000000 in
theorem llink_any (h : LruE X S L wv w) {o n : Nat} (ho : o < S.T.rows.length) (hn : n < S.T.rows.length) :
    Calls Try.prog 57 #[.pointer (some ⟨X, 0, none⟩), .int .i64 (o : Int), .int .i64 (n : Int)] w fun e w' => e = .returned (.tuple #[]) ∧ LruE X (S.rows (Lr.link S.T.rows o n)) L wv w' ∧ Trn (fun b => b = L.R) w w' := by
  obtain ⟨o0, o1, o2, o3⟩ := h.row ho
  obtain ⟨n0, n1, n2, n3⟩ := h.row hn
  have rf := h.rfroz
  obtain ⟨e1, t1⟩ := h.set ho (f := 3) (q := o * 4 + 3) (u := .int .i64 (n : Int)) (r := { Lr.rat S.T.rows o with c := n }) (by omega) rfl rfl
  obtain ⟨e2, t2⟩ := e1.set (i := n) (f := 2) (q := n * 4 + 2) (u := .int .i64 (o : Int)) (r := { Lr.rat (Lr.setC S.T.rows o n) n with b := o }) (by show _ < (List.set _ _ _).length; simpa using hn) (by omega) rfl rfl
  have t3 := t1.trans (t2.mono (g := grow (fun b => b = L.R) w _) fun b _ e => .inl e)
  go_enter Try.func57, Try.ntmps57
  go_wp2_with (first
    | (go_at_call 77; ((with_reducible refine (seat_any h ho).mono ?_); rintro e w1 ⟨rfl, rfl⟩))
    | (go_at_call 77; ((with_reducible refine (seat_any h hn).mono ?_); rintro e w1 ⟨rfl, rfl⟩)))
  go_end0
  exact ⟨rfl, e2, t3⟩
theorem LruE.cells (h : LruE X S L wv w) : w.cell? ⟨X, 0, none⟩ = some (.int .i64 S.most) ∧ w.cell? ⟨X, 1, none⟩ = some (encI S.c0) ∧ w.cell? ⟨X, 2, none⟩ = some (encI S.c1) ∧ w.cell? ⟨X, 6, none⟩ = some wv ∧ ∀ i, w.frozen? ⟨X, i, none⟩ = false := by
  obtain ⟨bx, h1, h2, h3, h4, h5⟩ := h.ex
  exact ⟨h1.box.cell h2, h1.box.cell h3, h1.box.cell h4, h1.box.cell h5, h1.box.frozen⟩
theorem LruE.neXR (h : LruE X S L wv w) : X ≠ L.R := by
  obtain ⟨bx, h1, _⟩ := h.ex
  exact h1.neXR
/-- A count is changed. -/
theorem LruE.count0 (h : LruE X S L wv w) (n : Nat) : LruE X { S with c0 := n } L wv (w.setCell ⟨X, 1, none⟩ (.int .i64 (n : Int))) ∧ Trn (fun b => b = X) w (w.setCell ⟨X, 1, none⟩ (.int .i64 (n : Int))) := by
  obtain ⟨bx, h1, h2, h3, h4, h5⟩ := h.ex
  have hl := (List.getElem?_eq_some_iff.1 h5).1
  refine ⟨⟨bx.set 1 (.int .i64 (n : Int)), ?_, ?_, ?_, ?_, ?_⟩, Trn.set1 h1.box _ _⟩
  · exact h1.boxed (i := 1) (u := .int .i64 (n : Int)) (T' := S.T) (sv' := L.sv) rfl (by rw [List.getElem?_set_ne (by omega)]; exact h1.c0) (by rw [List.getElem?_set_ne (by omega)]; exact h1.c1) (by rw [List.getElem?_set_ne (by omega)]; exact h1.c2) rfl rfl h1.spare (fun g e => (h1.neS e).1)
  · rw [List.getElem?_set_ne (by omega)]; exact h2
  · rw [List.getElem?_set_self (by omega)]; rfl
  · rw [List.getElem?_set_ne (by omega)]; exact h4
  · rw [List.getElem?_set_ne (by omega)]; exact h5
theorem LruE.count1 (h : LruE X S L wv w) (n : Nat) : LruE X { S with c1 := n } L wv (w.setCell ⟨X, 2, none⟩ (.int .i64 (n : Int))) ∧ Trn (fun b => b = X) w (w.setCell ⟨X, 2, none⟩ (.int .i64 (n : Int))) := by
  obtain ⟨bx, h1, h2, h3, h4, h5⟩ := h.ex
  have hl := (List.getElem?_eq_some_iff.1 h5).1
  refine ⟨⟨bx.set 2 (.int .i64 (n : Int)), ?_, ?_, ?_, ?_, ?_⟩, Trn.set1 h1.box _ _⟩
  · exact h1.boxed (i := 2) (u := .int .i64 (n : Int)) (T' := S.T) (sv' := L.sv) rfl (by rw [List.getElem?_set_ne (by omega)]; exact h1.c0) (by rw [List.getElem?_set_ne (by omega)]; exact h1.c1) (by rw [List.getElem?_set_ne (by omega)]; exact h1.c2) rfl rfl h1.spare (fun g e => (h1.neS e).1)
  · rw [List.getElem?_set_ne (by omega)]; exact h2
  · rw [List.getElem?_set_ne (by omega)]; exact h3
  · rw [List.getElem?_set_self (by omega)]; rfl
  · rw [List.getElem?_set_ne (by omega)]; exact h5
set_option maxHeartbeats 2000000 in
theorem ljoin_any (h : LruE X S L wv w) {i p : Nat} (hi : i < S.T.rows.length) (hp : p = 0 ∨ p = 1) (hp2 : p < S.T.rows.length) (ho : (Lr.rat (Lr.setA S.T.rows i p) p).b < S.T.rows.length) (_hlen : S.T.rows.length < 100000) (hc : S.c0 < 100000 ∧ S.c1 < 100000) :
    Calls Try.prog 61 #[.pointer (some ⟨X, 0, none⟩), .int .i64 (i : Int), .int .i64 (p : Int)] w fun e w' => e = .returned (.tuple #[]) ∧ LruE X (S.join i p) L wv w' ∧ Trn (fun b => b = X ∨ b = L.R) w w' := by
  obtain ⟨i0, i1, i2, i3⟩ := h.row hi
  have rf := h.rfroz
  obtain ⟨e1, t1⟩ := h.set hi (f := 1) (q := i * 4 + 1) (u := .int .i64 (p : Int)) (r := { Lr.rat S.T.rows i with a := p }) (by omega) rfl rfl
  have e1 : LruE X (S.rows (Lr.setA S.T.rows i p)) L wv _ := e1
  obtain ⟨p0, p1, p2, p3⟩ := e1.row (i := p) (by show p < (Lr.setA S.T.rows i p).length; rw [Lr.setA_len]; exact hp2)
  have p2 : (w.setCell ⟨L.R, i * 4 + 1, none⟩ (.int .i64 (p : Int))).cell? ⟨L.R, p * 4 + 2, none⟩ = some (encI (Lr.rat (Lr.setA S.T.rows i p) p).b) := p2
  go_enter Try.func61, Try.ntmps61
  go_wp2_with fail
  refine (seat_any h hi).mono ?_
  rintro e w1 ⟨rfl, rfl⟩
  go_wp2_with fail
  generalize w.setCell ⟨L.R, i * 4 + 1, none⟩ (.int .i64 (p : Int)) = W1 at *
  refine (seat_any e1 (i := p) (by show p < (Lr.setA S.T.rows i p).length; rw [Lr.setA_len]; exact hp2)).mono ?_
  rintro e w1 ⟨rfl, rfl⟩
  have hl1 : (S.rows (Lr.setA S.T.rows i p)).T.rows.length = S.T.rows.length := Lr.setA_len _ _ _
  go_wp2_with fail
  refine (llink_any e1 (o := (Lr.rat (Lr.setA S.T.rows i p) p).b) (n := i) (by rw [hl1]; exact ho) (by rw [hl1]; exact hi)).mono ?_
  rintro e w2 ⟨rfl, e2, t2⟩
  clear p0 p1 p2 p3
  have hl2 : ((S.rows (Lr.setA S.T.rows i p)).rows (Lr.link (S.rows (Lr.setA S.T.rows i p)).T.rows (Lr.rat (Lr.setA S.T.rows i p) p).b i)).T.rows.length = S.T.rows.length := (Lr.link_len _ _ _).trans hl1
  go_wp2_with fail
  refine (llink_any e2 (o := i) (n := p) (by rw [hl2]; exact hi) (by rw [hl2]; exact hp2)).mono ?_
  rintro e w3 ⟨rfl, e3, t3⟩
  have e3 : LruE X (S.rows (Lr.ring S.T.rows i p)) L wv w3 := e3
  have t4 : Trn (fun b => b = X ∨ b = L.R) w w3 := ((t1.trans (t2.mono fun b _ e => .inl e)).trans (t3.mono fun b _ e => .inl e)).mono fun b _ e => .inr e
  obtain ⟨q0, q1, q2, q3, q4⟩ := e3.cells
  replace q1 : w3.cell? ⟨X, 1, none⟩ = some (.int .i64 (S.c0 : Int)) := q1
  replace q2 : w3.cell? ⟨X, 2, none⟩ = some (.int .i64 (S.c1 : Int)) := q2
  obtain ⟨hc0, hc1⟩ := hc
  obtain ⟨e4, t5⟩ := e3.count0 (S.c0 + 1)
  obtain ⟨e5, t6⟩ := e3.count1 (S.c1 + 1)
  clear e1 e2 t1 t2 t3 hl1 hl2 i0 i1 i2 i3 rf
  rcases hp with rfl | rfl
  · go_wp2_with fail
    go_region
    go_end0
    exact ⟨rfl, e4.same rfl, (t4.trans (t5.mono (g := grow _ w w3) fun b _ e => .inl (.inl e))).trans (Trn.drew _ 1)⟩
  · go_wp2_with fail
    go_region
    go_end0
    exact ⟨rfl, e5.same rfl, (t4.trans (t6.mono (g := grow _ w w3) fun b _ e => .inl (.inl e))).trans (Trn.drew _ 1)⟩
set_option maxHeartbeats 2000000 in
theorem lleave_any (h : LruE X S L wv w) {i : Nat} (hi : i < S.T.rows.length) (hb : (Lr.rat S.T.rows i).b < S.T.rows.length) (hc : (Lr.rat S.T.rows i).c < S.T.rows.length)
    (ha : ((Lr.rat S.T.rows i).a = 0 ∧ 0 < S.c0) ∨ ((Lr.rat S.T.rows i).a = 1 ∧ 0 < S.c1)) (_hlen : S.T.rows.length < 100000) (hcc : S.c0 < 100000 ∧ S.c1 < 100000) :
    Calls Try.prog 63 #[.pointer (some ⟨X, 0, none⟩), .int .i64 (i : Int)] w fun e w' => e = .returned (.tuple #[]) ∧ LruE X (S.leave i) L wv w' ∧ Trn (fun b => b = X ∨ b = L.R) w w' := by
  obtain ⟨i0, i1, i2, i3⟩ := h.row hi
  replace i2 : w.cell? ⟨L.R, i * 4 + 2, none⟩ = some (.int .i64 ((Lr.rat S.T.rows i).b : Int)) := i2
  replace i3 : w.cell? ⟨L.R, i * 4 + 3, none⟩ = some (.int .i64 ((Lr.rat S.T.rows i).c : Int)) := i3
  obtain ⟨hc0, hc1⟩ := hcc
  go_enter Try.func63, Try.ntmps63
  go_wp2_with fail
  refine (seat_any h hi).mono ?_
  rintro e w1 ⟨rfl, rfl⟩
  go_wp2_with fail
  go_still_tail 9, (by kernel_rfl)
  change wpList _ _ _ _ _ w.drew
  go_wp2_with fail
  refine (llink_any (h.same (w' := w.drew) rfl) hb hc).mono ?_
  rintro e w2 ⟨rfl, e2, t2⟩
  have hl2 : (Lr.link S.T.rows (Lr.rat S.T.rows i).b (Lr.rat S.T.rows i).c).length = S.T.rows.length := Lr.link_len _ _ _
  have la := (Lr.link_at S.T.rows hb hc (i := i)).2.1
  obtain ⟨j0, j1, j2, j3⟩ := e2.row (i := i) (by show i < (Lr.link S.T.rows _ _).length; rw [hl2]; exact hi)
  replace j1 : w2.cell? ⟨L.R, i * 4 + 1, none⟩ = some (.int .i64 (Lr.rat (Lr.link S.T.rows (Lr.rat S.T.rows i).b (Lr.rat S.T.rows i).c) i).a) := j1
  rw [la] at j1
  have t4 : Trn (fun b => b = X ∨ b = L.R) w w2 := ((Trn.drew (f := fun b => b = X ∨ b = L.R) w 1).trans (t2.mono fun b _ e => .inl (.inr e)))
  obtain ⟨q0, q1, q2, q3, q4⟩ := e2.cells
  replace q1 : w2.cell? ⟨X, 1, none⟩ = some (.int .i64 (S.c0 : Int)) := q1
  replace q2 : w2.cell? ⟨X, 2, none⟩ = some (.int .i64 (S.c1 : Int)) := q2
  obtain ⟨e4, t5⟩ := e2.count0 (S.c0 - 1)
  obtain ⟨e5, t6⟩ := e2.count1 (S.c1 - 1)
  have hlv : ∀ p : Int, (Lr.rat S.T.rows i).a = p → S.leave i = ⟨S.most, if p = 0 then S.c0 - 1 else S.c0, if p = 0 then S.c1 else S.c1 - 1, ⟨Lr.link S.T.rows (Lr.rat S.T.rows i).b (Lr.rat S.T.rows i).c, S.T.spare, S.T.g⟩⟩ := fun p e => by subst e; rfl
  have HL := Lib.hid hlv
  clear t2 hl2 la i0 i1 i2 i3 j0 j2 j3 hlv
  rcases ha with ⟨ha, hpos⟩ | ⟨ha, hpos⟩
  · have hs : ((S.c0 - 1 : Nat) : Int) = (S.c0 : Int) - 1 := by omega
    rw [ha] at j1
    rw [hs] at e4 t5
    have HA := Lib.hid ha
    clear ha hs
    go_wp2_with fail
    go_region
    go_end0
    rw [HL.out 0 HA.out]
    exact ⟨rfl, e4.same rfl, (t4.trans (t5.mono (g := grow _ w w2) fun b _ e => .inl (.inl e))).trans (Trn.drew _ 1)⟩
  · have hs : ((S.c1 - 1 : Nat) : Int) = (S.c1 : Int) - 1 := by omega
    rw [ha] at j1
    rw [hs] at e5 t6
    have HA := Lib.hid ha
    clear ha hs
    go_wp2_with fail
    go_region
    go_end0
    rw [HL.out 1 HA.out]
    exact ⟨rfl, e5.same rfl, (t4.trans (t6.mono (g := grow _ w w2) fun b _ e => .inl (.inl e))).trans (Trn.drew _ 1)⟩
end
end Go.Proofs.Ytchlemajppnehaa

/- A ring of seats: mathematics. -/
set_option maxRecDepth 100000
namespace Go.Proofs.Ytchlemajppnehaa
namespace Lr
open Tb
/-- Each is linked with the next one. -/
def Adj (rows : List Row) : List Nat → Prop
  | [] => True
  | [_] => True
  | x :: y :: l => ((rat rows x).c = y ∧ (rat rows y).b = x) ∧ Adj rows (y :: l)
variable {rows rows' : List Row}
theorem Adj.cut : ∀ {A : List Nat} {x : Nat} {B : List Nat}, Adj rows (A ++ x :: B) ↔ Adj rows (A ++ [x]) ∧ Adj rows (x :: B)
  | [], x, B => by simp [Adj]
  | [a], x, B => by simp [Adj]
  | a :: a' :: A, x, B => by
    have := Adj.cut (A := a' :: A) (x := x) (B := B)
    simp only [List.cons_append, Adj] at this ⊢
    rw [this, ← and_assoc]
theorem Adj.congr : ∀ {L : List Nat}, Adj rows L → (∀ s ∈ L.dropLast, (rat rows' s).c = (rat rows s).c) → (∀ t ∈ L.tail, (rat rows' t).b = (rat rows t).b) → Adj rows' L
  | [], _, _, _ => trivial
  | [_], _, _, _ => trivial
  | x :: y :: l, h, h1, h2 => by
    refine ⟨⟨(h1 x (by simp)).trans h.1.1, (h2 y (by simp)).trans h.1.2⟩, Adj.congr h.2 (fun s hs => h1 s (by simp only [List.dropLast_cons_of_ne_nil (List.cons_ne_nil y l), List.mem_cons]; exact .inr hs)) (fun t ht => h2 t (by simp only [List.tail_cons, List.mem_cons]; exact .inr ht))⟩
theorem Adj.link {A B : List Nat} {u v : Nat} (h1 : Adj rows (A ++ [u])) (h2 : Adj rows (v :: B)) (hu : u < rows.length) (hv : v < rows.length) (a1 : u ∉ A) (a2 : v ∉ (A ++ [u]).tail) (a3 : u ∉ (v :: B).dropLast) (a4 : v ∉ B) :
    Adj (Lr.link rows u v) (A ++ u :: v :: B) := by
  have hl := fun i => link_at rows hu hv (i := i)
  rw [Adj.cut]
  refine ⟨h1.congr (fun s hs => ?_) (fun t ht => ?_), ⟨⟨?_, ?_⟩, h2.congr (fun s hs => ?_) (fun t ht => ?_)⟩⟩
  · rw [(hl s).2.2.2, if_neg (show ¬ s = u from fun e => a1 (by rw [List.dropLast_concat] at hs; rwa [← e]))]
  · rw [(hl t).2.2.1, if_neg (show ¬ t = v from fun e => a2 (e ▸ ht))]
  · rw [(hl u).2.2.2, if_pos rfl]
  · rw [(hl v).2.2.1, if_pos rfl]
  · rw [(hl s).2.2.2, if_neg (show ¬ s = u from fun e => a3 (e ▸ hs))]
  · rw [(hl t).2.2.1, if_neg (show ¬ t = v from fun e => a4 (e ▸ ht))]
/-- One comes in ahead of a mark. -/
theorem Adj.put {A B : List Nat} {u m x : Nat} (h : Adj rows (A ++ u :: m :: B)) (hu : u < rows.length) (hm : m < rows.length) (hx : x < rows.length) (n1 : (A ++ u :: m :: B).dropLast.Nodup) (n2 : (A ++ u :: m :: B).tail.Nodup) (nx : x ∉ A ++ u :: m :: B) :
    Adj (Lr.link (Lr.link rows u x) x m) (A ++ u :: x :: m :: B) := by
  have h1 := (Adj.cut (rows := rows) (A := A) (x := u) (B := m :: B)).1 h
  have h2 : Adj rows (m :: B) := h1.2.2
  simp only [List.mem_append, List.mem_cons, not_or] at nx
  obtain ⟨x1, x2, x3, x4⟩ := nx
  have e1 : (A ++ u :: m :: B).dropLast = A ++ u :: (m :: B).dropLast := by
    rw [List.dropLast_append_of_ne_nil (by simp), List.dropLast_cons_of_ne_nil (by simp)]
  rw [e1, List.nodup_append] at n1
  obtain ⟨m1, m2, m3⟩ := n1
  rw [List.nodup_cons] at m2
  have uA : u ∉ A := fun e => m3 u e u (List.mem_cons_self) rfl
  have uB : u ∉ (m :: B).dropLast := m2.1
  have tl : (A ++ [u]).tail ++ (m :: B) = (A ++ u :: m :: B).tail := by cases A <;> simp
  rw [← tl, List.nodup_append] at n2
  obtain ⟨t1, t2, t3⟩ := n2
  rw [List.nodup_cons] at t2
  have hl := fun i => link_at rows hu hx (i := i)
  have s1 : Adj (Lr.link rows u x) (A ++ u :: [x]) := Adj.link h1.1 (v := x) (B := []) trivial hu hx uA (fun e => by
    have : x ∈ A ++ [u] := List.mem_of_mem_tail e
    simp only [List.mem_append, List.mem_singleton] at this
    exact this.elim x1 x2) (by simp) (by simp)
  have s2 : Adj (Lr.link rows u x) (m :: B) := h2.congr (fun s hs => by rw [(hl s).2.2.2, if_neg (show ¬ s = u from fun e => uB (e ▸ hs))]) (fun t ht => by rw [(hl t).2.2.1, if_neg (show ¬ t = x from fun e => x4 (e ▸ ht))])
  have s3 := Adj.link (A := A ++ [u]) (u := x) (v := m) (B := B) (by simpa using s1) s2 (by rw [link_len]; exact hx) (by rw [link_len]; exact hm) (by simp [x1, x2]) (fun e => by
    have : m ∈ (A ++ [u]).tail ++ [x] := by cases A <;> simpa using e
    rw [List.mem_append, List.mem_singleton] at this
    exact this.elim (fun e => t3 m e m (List.mem_cons_self) rfl) (fun e => x3 e.symm))
    (fun e => by
      have := List.dropLast_subset _ e
      rw [List.mem_cons] at this
      exact this.elim x3 x4) t2.1
  simpa using s3
/-- One goes out. -/
theorem Adj.out {A B : List Nat} {u m x : Nat} (h : Adj rows (A ++ u :: x :: m :: B)) (hu : u < rows.length) (hm : m < rows.length) (n1 : (A ++ u :: m :: B).dropLast.Nodup) (n2 : (A ++ u :: m :: B).tail.Nodup) :
    (rat rows x).b = u ∧ (rat rows x).c = m ∧ Adj (Lr.link rows u m) (A ++ u :: m :: B) := by
  have h1 := (Adj.cut (rows := rows) (A := A) (x := u) (B := x :: m :: B)).1 h
  obtain ⟨⟨_, h3⟩, ⟨h4, _⟩, h5⟩ := h1.2
  have e1 : (A ++ u :: m :: B).dropLast = A ++ u :: (m :: B).dropLast := by
    rw [List.dropLast_append_of_ne_nil (by simp), List.dropLast_cons_of_ne_nil (by simp)]
  rw [e1, List.nodup_append] at n1
  obtain ⟨m1, m2, m3⟩ := n1
  rw [List.nodup_cons] at m2
  have tl : (A ++ [u]).tail ++ (m :: B) = (A ++ u :: m :: B).tail := by cases A <;> simp
  rw [← tl, List.nodup_append] at n2
  obtain ⟨t1, t2, t3⟩ := n2
  rw [List.nodup_cons] at t2
  exact ⟨h3, h4, Adj.link h1.1 h5 hu hm (fun e => m3 u e u (List.mem_cons_self) rfl) (fun e => t3 m e m (List.mem_cons_self) rfl) m2.1 t2.1⟩
end Lr
end Go.Proofs.Ytchlemajppnehaa
