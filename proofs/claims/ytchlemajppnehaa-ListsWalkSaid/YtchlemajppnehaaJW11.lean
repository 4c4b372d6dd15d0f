/- 4 texts put together: Due, Hpa, Hpw, Hpc. -/
import Derived.IntWalk
import Derived.StillTailTactics
import Derived.Test.YtchlemajppnehaaJW5
import Derived.Test.YtchlemajppnehaaJW9
import Derived.Test.YtchlemajppnehaaJW10
/- A Due: what lies in memory; term, ahead, moved. -/
set_option maxRecDepth 100000
namespace Go.Proofs.Ytchlemajppnehaa
open Go Go.RowKit Go.Shelf Go.Maps
abbrev tDue : TypeId := 67
abbrev tHp : TypeId := 63
def fvA (X : Nat) : Value := .func (.func 42) #[.pointer (some ⟨X, 0, none⟩)] #[]
def fvM (X : Nat) : Value := .func (.func 43) #[.pointer (some ⟨X, 0, none⟩)] #[]
namespace Du
open Tb Lr
structure St where
  turns : Nat
  T : Tab
  l : List Nat
/-- By time, then by turn. -/
def lt (rows : List Row) (i j : Nat) : Bool := decide ((rat rows i).a < (rat rows j).a) || ((rat rows i).a == (rat rows j).a && decide ((rat rows i).b < (rat rows j).b))
theorem lt_iff {rows : List Row} {i j : Nat} : lt rows i j = true ↔ (rat rows i).a < (rat rows j).a ∨ ((rat rows i).a = (rat rows j).a ∧ (rat rows i).b < (rat rows j).b) := by
  unfold lt
  simp
theorem lt_no {rows : List Row} {i j : Nat} : lt rows i j = false ↔ (rat rows j).a < (rat rows i).a ∨ ((rat rows i).a = (rat rows j).a ∧ (rat rows j).b ≤ (rat rows i).b) := by
  rw [← Bool.not_eq_true, lt_iff]
  omega
theorem ord (rows : List Row) : Hp.Ord (lt rows) := by
  constructor
  · intro a b h
    rw [lt_iff] at h
    rw [lt_no]
    omega
  · intro a b c h1 h2
    rw [lt_no] at h1 h2 ⊢
    omega
def withC (rows : List Row) (pl : List Nat) : List Row := List.zipWith (fun r c => { r with c := c }) rows pl
theorem withC_len {rows : List Row} {pl : List Nat} (h : pl.length = rows.length) : (withC rows pl).length = rows.length := by simp [withC, h]
theorem withC_at {rows : List Row} {pl : List Nat} (h : pl.length = rows.length) {i : Nat} (hi : i < rows.length) : rat (withC rows pl) i = { rat rows i with c := pl.getD i 0 } := by
  unfold rat withC
  simp [List.getD_eq_getElem?_getD, List.getElem?_zipWith, List.getElem?_eq_getElem hi, List.getElem?_eq_getElem (show i < pl.length by omega)]
theorem withC_set : ∀ {rows : List Row} {pl : List Nat} (i c : Nat), pl.length = rows.length → (withC rows pl).set i { rat (withC rows pl) i with c := c } = withC rows (pl.set i c)
  | [], [], i, c, _ => by simp [withC]
  | r :: rows, p :: pl, 0, c, h => by simp [withC, rat]
  | r :: rows, p :: pl, i + 1, c, h => by
    have := withC_set (rows := rows) (pl := pl) i c (by simpa using h)
    simp only [withC, List.zipWith_cons_cons, List.set_cons_succ, rat, List.getD_cons_succ] at this ⊢
    rw [this]
theorem withC_self : ∀ (rows : List Row), withC rows (rows.map (·.c)) = rows
  | [] => rfl
  | r :: rows => by
    have := withC_self rows
    simp only [withC, List.map_cons, List.zipWith_cons_cons] at this ⊢
    rw [this]
theorem lt_withC {rows : List Row} {pl : List Nat} (h : pl.length = rows.length) {i j : Nat} (hi : i < rows.length) (hj : j < rows.length) : lt (withC rows pl) i j = lt rows i j := by
  unfold lt
  rw [withC_at h hi, withC_at h hj]
end Du
structure DueE (X : Nat) (S : Du.St) (L : TL) (hv wv : Value) (W : World) : Prop where
  ex : ∃ bx, TabE tT X 1 tDue bx S.T L W ∧ bx[0]? = some (encI S.turns) ∧ bx[4]? = some hv ∧ bx[5]? = some (fvA X) ∧ bx[6]? = some (fvM X) ∧ bx[7]? = some wv
  heap : OwnK encI1 1 3 0 hv S.l W
  apart : ∀ g, hv.ownBlock = some g → L.sv.ownBlock ≠ some g
section
variable {X : Nat} {S : Du.St} {L : TL} {hv wv : Value} {w w' : World}
theorem DueE.below (h : DueE X S L hv wv w) (hb : Below w.heap.size w w') : DueE X S L hv wv w' := by
  obtain ⟨bx, h1, h2⟩ := h.ex
  exact ⟨⟨bx, h1.below hb, h2⟩, ownK_below h.heap hb, h.apart⟩
theorem DueE.same (h : DueE X S L hv wv w) (hw : w'.heap = w.heap) : DueE X S L hv wv w' := by
  obtain ⟨bx, h1, h2⟩ := h.ex
  exact ⟨⟨bx, h1.same hw, h2⟩, own_kept h.heap (fun g _ => by rw [hw]), h.apart⟩
theorem DueE.cells (h : DueE X S L hv wv w) : w.cell? ⟨X, 0, none⟩ = some (encI S.turns) ∧ w.cell? ⟨X, 2, none⟩ = some (.slice (some ⟨L.R, 0, none⟩) S.T.rows.length L.cap) ∧ w.cell? ⟨X, 4, none⟩ = some hv ∧ w.cell? ⟨X, 5, none⟩ = some (fvA X) ∧ w.cell? ⟨X, 6, none⟩ = some (fvM X) ∧ w.cell? ⟨X, 7, none⟩ = some wv ∧ ∀ i, w.frozen? ⟨X, i, none⟩ = false := by
  obtain ⟨bx, h1, h2, h3, h4, h5, h6⟩ := h.ex
  exact ⟨h1.box.cell h2, h1.cells.2.1, h1.box.cell h3, h1.box.cell h4, h1.box.cell h5, h1.box.cell h6, h1.box.frozen⟩
theorem DueE.row (h : DueE X S L hv wv w) {i : Nat} (hi : i < S.T.rows.length) : w.cell? ⟨L.R, i * 4, none⟩ = some (.int .i64 (Lr.rat S.T.rows i).k) ∧ w.cell? ⟨L.R, i * 4 + 1, none⟩ = some (.int .i64 (Lr.rat S.T.rows i).a) ∧ w.cell? ⟨L.R, i * 4 + 2, none⟩ = some (encI (Lr.rat S.T.rows i).b) ∧ w.cell? ⟨L.R, i * 4 + 3, none⟩ = some (encI (Lr.rat S.T.rows i).c) ∧ ∀ j, w.frozen? ⟨L.R, j, none⟩ = false := by
  obtain ⟨bx, h1, h2⟩ := h.ex
  obtain ⟨a, b, c, d⟩ := h1.row hi
  exact ⟨a, b, c, d, h1.rfroz⟩
theorem DueE.lt (h : DueE X S L hv wv w) : X < w.heap.size ∧ L.R < w.heap.size := by
  obtain ⟨bx, h1, h2⟩ := h.ex
  obtain ⟨c, hc⟩ := own_blk h1.rows
  exact ⟨h1.box.lt, hc.lt⟩
set_option maxHeartbeats 1000000 in
theorem dterm_any (h : DueE X S L hv wv w) {i : Nat} (hi : i < S.T.rows.length) :
    Calls Try.prog 48 #[.pointer (some ⟨X, 0, none⟩), .int .i64 (i : Int)] w fun e w' => e = .returned (.pointer (some ⟨L.R, i * 4 + 1, none⟩)) ∧ w = w' := by
  obtain ⟨_, c2, _⟩ := h.cells
  go_enter Try.func48, Try.ntmps48
  go_wp2
  go_ret
  exact ⟨rfl, rfl⟩
set_option maxHeartbeats 2000000 in
theorem dahead_any (h : DueE X S L hv wv w) {i j : Nat} (hi : i < S.T.rows.length) (hj : j < S.T.rows.length) :
    Calls Try.prog 42 #[.pointer (some ⟨X, 0, none⟩), .int .i64 (i : Int), .int .i64 (j : Int)] w fun e w' => e = .returned (.bool (Du.lt S.T.rows i j)) ∧ ∃ n, w' = w.drewN n := by
  obtain ⟨_, i1, i2, _⟩ := h.row hi
  obtain ⟨_, j1, j2, _⟩ := h.row hj
  unfold encI at i2 j2
  have ei : Du.lt S.T.rows i j = (decide ((Lr.rat S.T.rows i).a < (Lr.rat S.T.rows j).a) || ((Lr.rat S.T.rows i).a == (Lr.rat S.T.rows j).a && decide ((Lr.rat S.T.rows i).b < (Lr.rat S.T.rows j).b))) := rfl
  rw [ei]
  clear ei
  have ht := fun k hk => dterm_any h (i := k) hk
  generalize (Lr.rat S.T.rows i).a = a at *
  generalize (Lr.rat S.T.rows j).a = a' at *
  generalize (Lr.rat S.T.rows i).b = b at *
  generalize (Lr.rat S.T.rows j).b = b' at *
  go_enter Try.func42, Try.ntmps42
  go_wp2_with (first | (go_at_call 48; ((with_reducible refine (ht i hi).mono ?_); rintro e w1 ⟨rfl, rfl⟩)) | (go_at_call 48; ((with_reducible refine (ht j hj).mono ?_); rintro e w1 ⟨rfl, rfl⟩)))
  rcases Int.lt_trichotomy a a' with h1 | h1 | h1
  · have d1 : decide (a < a') = true := by simpa using h1
    go_quiet (fail)
    go_wp2
    go_ret
    exact ⟨ret_bool (by simp [h1]), _, rfl⟩
  · subst h1
    have d1 : decide (a < a) = false := by simp
    have d2 : (a == a) = true := by simp
    have d4 : decide ((b : Int) < (b' : Int)) = decide (b < b') := by simp
    have D4 := Lib.hid d4
    clear d4
    go_quiet (fail)
    go_wp2
    go_ret
    exact ⟨ret_bool (by simp), _, rfl⟩
  · have d1 : decide (a < a') = false := by simp; omega
    have d2 : (a == a') = false := by simp; omega
    go_quiet (fail)
    go_wp2
    go_ret
    exact ⟨ret_bool (by rw [d1, d2]; rfl), _, rfl⟩
/-- moved: where one stands. -/
theorem DueE.place (h : DueE X S L hv wv w) {i : Nat} (hi : i < S.T.rows.length) (c : Nat) (hG : ∀ g, hv.ownBlock = some g → g ≠ L.R) :
    DueE X { S with T := { S.T with rows := S.T.rows.set i { Lr.rat S.T.rows i with c := c } } } L hv wv (w.setCell ⟨L.R, i * 4 + 3, none⟩ (.int .i64 (c : Int))) ∧ Trn (fun b => b = L.R) w (w.setCell ⟨L.R, i * 4 + 3, none⟩ (.int .i64 (c : Int))) := by
  obtain ⟨bx, h1, h2⟩ := h.ex
  obtain ⟨d, hd⟩ := own_blk h1.rows
  exact ⟨⟨⟨bx, h1.set hi (f := 3) (by omega) rfl rfl, h2⟩, own_kept h.heap (fun g e => Below.heap_setCell w ⟨L.R, i * 4 + 3, none⟩ _ g (hG g e)), h.apart⟩, Trn.set1 hd _ _⟩
theorem DueE.hR (h : DueE X S L hv wv w) : ∀ g, hv.ownBlock = some g → g ≠ L.R ∧ g ≠ X ∧ L.M ≠ g := fun g e => by
  obtain ⟨bx, h1, h2⟩ := h.ex
  obtain ⟨d, hd⟩ := own_blk h1.rows
  obtain ⟨d2, hd2⟩ := own_blk' h.heap e
  exact ⟨hd2.ne hd (by decide), hd2.ne h1.box (by decide), h1.map.ne hd2⟩
set_option maxHeartbeats 1000000 in
theorem dmoved_any (h : DueE X S L hv wv w) {i c : Nat} (hi : i < S.T.rows.length) :
    Calls Try.prog 43 #[.pointer (some ⟨X, 0, none⟩), .int .i64 (i : Int), .int .i64 (c : Int)] w fun e w' => e = .returned (.tuple #[]) ∧ DueE X { S with T := { S.T with rows := S.T.rows.set i { Lr.rat S.T.rows i with c := c } } } L hv wv w' ∧ Trn (fun b => b = L.R) w w' := by
  obtain ⟨_, _, _, r3, rf⟩ := h.row hi
  obtain ⟨e1, t1⟩ := h.place hi c (fun g e => (h.hR g e).1)
  unfold encI at r3
  go_enter Try.func43, Try.ntmps43
  go_wp2_with (go_at_call 48; refine (dterm_any h hi).mono ?_; rintro e w1 ⟨rfl, rfl⟩)
  go_end0
  exact ⟨rfl, e1, t1⟩
end
end Go.Proofs.Ytchlemajppnehaa

/- above, below. -/
set_option maxRecDepth 100000
namespace Go.Proofs.Ytchlemajppnehaa
open Go Go.RowKit Go.Shelf Go.Maps
theorem above_any (p : Nat) (w : World) (h0 : 0 < p) (hp : p < 100000) : Calls Try.prog 85 #[.int .i64 (p : Int)] w fun e w' => e = .returned (.int .i64 (Hp.above p : Int)) ∧ w' = w := by
  obtain ⟨k, rfl⟩ : ∃ k, p = k + 1 := ⟨p - 1, by omega⟩
  have e : (Hp.above (k + 1) : Int) = (k : Int) / 2 := by unfold Hp.above; rw [Nat.add_sub_cancel]; omega
  rw [e]
  simp only [Int.natCast_add, Int.cast_ofNat_Int]
  go_enter Try.func85, Try.ntmps85
  go_wp2
  go_ret
  exact ⟨rfl, rfl⟩
theorem below_any (p : Nat) (w : World) (hp : p < 200000) : Calls Try.prog 76 #[.int .i64 (p : Int)] w fun e w' => e = .returned (.int .i64 ((2 * p + 1 : Nat) : Int)) ∧ w' = w := by
  go_enter Try.func76, Try.ntmps76
  go_wp2
  go_ret
  exact ⟨ret_int (by omega), rfl⟩
/-- The heap of a Due, in place: its list, and where each stands. -/
structure HD (X : Nat) (S : Du.St) (L : TL) (wv : Value) (hv : Value) (s : Hp.Sp) (w : World) : Prop where
  due : DueE X ⟨S.turns, ⟨Du.withC S.T.rows s.pl, S.T.spare, S.T.g⟩, s.l⟩ L hv wv w
  pl : s.pl.length = S.T.rows.length
  hlen : S.T.rows.length < 100000
section
variable {X : Nat} {S : Du.St} {L : TL} {hv wv : Value} {s : Hp.Sp} {w w' : World}
theorem HD.same (h : HD X S L wv hv s w) (hw : w'.heap = w.heap) : HD X S L wv hv s w' := ⟨h.due.same hw, h.pl, h.hlen⟩
theorem HD.same2 (h : HD X S L wv hv s w) (w' : World) (hw : w'.heap = w.heap) : HD X S L wv hv s w' := h.same hw
theorem own_pos {hv : Value} {l : List Nat} (h : OwnK encI1 1 3 0 hv l w) (hn : 0 < l.length) : ∃ G cap, hv = .slice (some ⟨G, 0, none⟩) l.length cap ∧ l.length ≤ cap ∧ ∀ p (hp : p < l.length), w.cell? ⟨G, p, none⟩ = some (.int .i64 (l[p] : Int)) := by
  obtain ⟨ao, cap, rfl, hf⟩ := ownK_form h
  obtain ⟨G, rfl⟩ := hf (fun e => by subst e; simp at hn)
  refine ⟨G, cap, rfl, (own_cap h).2.1, fun p hp => ?_⟩
  have := ownK_cell encI1_len h (j := p) (i := 0) hp (by omega)
  simp only [Nat.zero_add, Nat.mul_one, Nat.add_zero] at this
  rw [this]; rfl
theorem at_get {s : Hp.Sp} {p : Nat} (hp : p < s.l.length) : s.at_ p = s.l[p] := by simp [Hp.Sp.at_, hp]
theorem hput_D (h : HD X S L wv hv s w) {x p : Nat} (hx : x < S.T.rows.length) (hp : p < s.l.length) :
    Calls Try.prog 86 #[.pointer (some ⟨X, 4, none⟩), .int .i64 (x : Int), .int .i64 (p : Int)] w fun e w' => e = .returned (.tuple #[]) ∧ HD X S L wv hv (s.put x p) w' ∧ Trn (fun b => hv.ownBlock = some b ∨ b = L.R) w w' := by
  have hown : OwnK encI1 1 3 0 hv s.l w := h.due.heap
  obtain ⟨G, cap, rfl, hcap, hc⟩ := own_pos hown (by omega)
  have hcp := hc p hp
  obtain ⟨_, _, c4, _, c6, _, _⟩ := h.due.cells
  have hR := h.due.hR G rfl
  obtain ⟨bx, ht, hx2⟩ := h.due.ex
  have ho := fun b (hb : b ≠ G) => Below.heap_setCell w ⟨G, p, none⟩ (.int .i64 (x : Int)) b hb
  obtain ⟨d, hd⟩ := own_blk ht.rows
  have hsv : L.sv.ownBlock ≠ some G := h.due.apart G rfl
  have hset : OwnK encI1 1 3 0 (.slice (some ⟨G, 0, none⟩) s.l.length cap) (s.l.set p x) (w.setCell ⟨G, p, none⟩ (.int .i64 (x : Int))) :=
    ownK_set encI1_len hown hp (f := 0) (by omega) (u := .int .i64 (x : Int)) (a := x) rfl (q := p) (by omega)
  have e1 : DueE X ⟨S.turns, ⟨Du.withC S.T.rows s.pl, S.T.spare, S.T.g⟩, s.l.set p x⟩ L (.slice (some ⟨G, 0, none⟩) s.l.length cap) wv (w.setCell ⟨G, p, none⟩ (.int .i64 (x : Int))) :=
    ⟨⟨bx, ⟨ht.box.kept (ho _ (Ne.symm hR.2.1)), ht.c0, ht.c1, ht.c2, ht.map.kept (ho _ hR.2.2), own_kept ht.rows (fun g e => by cases e; exact ho _ (Ne.symm hR.1)), own_kept ht.spare (fun g e => ho _ (fun e2 => hsv (e2 ▸ e))), ht.tx⟩, hx2⟩, hset, h.due.apart⟩
  obtain ⟨d2, hd2⟩ := own_blk hown
  have t1 : Trn (fun b => (Value.slice (some ⟨G, 0, none⟩) s.l.length cap).ownBlock = some b ∨ b = L.R) w (w.setCell ⟨G, p, none⟩ (.int .i64 (x : Int))) := Trn.set hd2 (.inl rfl) p _
  have hfz := World.ownsRow.frozenAt hown
  have hwl := Du.withC_len (rows := S.T.rows) h.pl
  have nGX : ¬ G = X := hR.2.1
  have nXG : ¬ X = G := fun e => nGX e.symm
  unfold fvM at c6
  have qf : ∀ w : World, (binOp .neq 36 (.func (.func 43) #[.pointer (some ⟨X, 0, none⟩)] #[]) .nilFunc).run Try.prog w = .ok (.bool true) w := fun w => by kernel_rfl
  have hs := h.hlen
  go_enter Try.func86, Try.ntmps86
  go_wp2_with fail
  refine (dmoved_any e1 (i := x) (c := p) (by show x < (Du.withC _ _).length; rw [hwl]; exact hx)).mono ?_
  rintro e w2 ⟨rfl, e2, t2⟩
  have e3 : DueE X ⟨S.turns, ⟨Du.withC S.T.rows (s.pl.set x p), S.T.spare, S.T.g⟩, s.l.set p x⟩ L (.slice (some ⟨G, 0, none⟩) s.l.length cap) wv w2 := by
    have := Du.withC_set (rows := S.T.rows) (pl := s.pl) x p h.pl
    rw [← this]
    exact e2
  go_wp2
  go_end0
  exact ⟨rfl, ⟨e3, by show (s.pl.set x p).length = _; rw [List.length_set]; exact h.pl, hs⟩, t1.trans (t2.mono fun b _ e => .inl (.inr e))⟩
theorem HD.cells (h : HD X S L wv hv s w) : w.cell? ⟨X, 4, none⟩ = some hv ∧ w.cell? ⟨X, 5, none⟩ = some (.func (.func 42) #[.pointer (some ⟨X, 0, none⟩)] #[]) :=
  ⟨h.due.cells.2.2.1, h.due.cells.2.2.2.1⟩
/-- Which goes ahead, at the heap of a Due. -/
theorem hahead_D (h : HD X S L wv hv s w) {i j : Nat} (hi : i < S.T.rows.length) (hj : j < S.T.rows.length) (n : Nat) :
    Calls Try.prog 42 #[.pointer (some ⟨X, 0, none⟩), .int .i64 (i : Int), .int .i64 (j : Int)] (w.drewN n) fun e w'' => e = .returned (.bool (Du.lt S.T.rows i j)) ∧ ∃ m, w'' = w.drewN m := by
  have hwl := Du.withC_len (rows := S.T.rows) h.pl
  have h1 := dahead_any (h.due.same (w' := w.drewN n) rfl) (i := i) (j := j) (by show i < (Du.withC _ _).length; rw [hwl]; exact hi) (by show j < (Du.withC _ _).length; rw [hwl]; exact hj)
  have e : Du.lt (Du.withC S.T.rows s.pl) i j = Du.lt S.T.rows i j := Du.lt_withC h.pl hi hj
  rw [← e]
  exact Calls.quiet_of h1
end
end Go.Proofs.Ytchlemajppnehaa

/- The heap of places that wait: what lies in memory; put, which goes ahead. -/
set_option maxRecDepth 100000
namespace Go.Proofs.Ytchlemajppnehaa
open Go Go.RowKit Go.Shelf Go.Maps
/-- Places by whom they hold. -/
def Du.ltP (S : Du.St) (p q : Nat) : Bool := Du.lt S.T.rows (S.l.getD p 0) (S.l.getD q 0)
theorem Du.ordP (S : Du.St) : Hp.Ord (Du.ltP S) := ⟨fun _a _b => (Du.ord S.T.rows).asym _ _, fun _a _b _c => (Du.ord S.T.rows).neg _ _ _⟩
/-- The heap in the box B, of places of the Due in X, whose box lies in db. -/
structure HW (X B db : Nat) (S : Du.St) (L : TL) (wv dv : Value) (hv : Value) (s : Hp.Sp) (w : World) : Prop where
  due : DueE X S L dv wv w
  dbx : Blk w db [.pointer (some ⟨X, 0, none⟩)] 33
  box : Blk w B [hv, .func (.func 73) #[] #[.pointer (some ⟨db, 0, none⟩)], .nilFunc] tHp
  heap : OwnK encI1 1 3 0 hv s.l w
  pl : s.pl = []
  hlen : S.T.rows.length < 100000 ∧ S.l.length < 100000
  ok : ∀ i ∈ S.l, i < S.T.rows.length
  apart : ∀ g, hv.ownBlock = some g → dv.ownBlock ≠ some g ∧ L.sv.ownBlock ≠ some g
section
variable {X B db : Nat} {S : Du.St} {L : TL} {hv wv dv : Value} {s : Hp.Sp} {w w' : World}
theorem HW.same2 (h : HW X B db S L wv dv hv s w) (w' : World) (hw : w'.heap = w.heap) : HW X B db S L wv dv hv s w' :=
  ⟨h.due.same hw, h.dbx.kept (by rw [hw]), h.box.kept (by rw [hw]), own_kept h.heap (fun g _ => by rw [hw]), h.pl, h.hlen, h.ok, h.apart⟩
theorem HW.below (h : HW X B db S L wv dv hv s w) (hb : Below w.heap.size w w') : HW X B db S L wv dv hv s w' :=
  ⟨h.due.below hb, h.dbx.kept (hb.block _ h.dbx.lt), h.box.kept (hb.block _ h.box.lt), ownK_below h.heap hb, h.pl, h.hlen, h.ok, h.apart⟩
theorem HW.cells (h : HW X B db S L wv dv hv s w) : w.cell? ⟨B, 0, none⟩ = some hv ∧ w.cell? ⟨B, 1, none⟩ = some (.func (.func 73) #[] #[.pointer (some ⟨db, 0, none⟩)]) :=
  ⟨h.box.cell rfl, h.box.cell rfl⟩
/-- A store into the list's block leaves all else. -/
theorem DueE.off (h : DueE X S L dv wv w) {g i : Nat} {u : Value} {cs : List Value} (hg : Blk w g cs 3) (h1 : dv.ownBlock ≠ some g) (h2 : L.sv.ownBlock ≠ some g) : DueE X S L dv wv (w.setCell ⟨g, i, none⟩ u) := by
  obtain ⟨bx, ht, hx⟩ := h.ex
  obtain ⟨d, hd⟩ := own_blk ht.rows
  have ho := fun b (hb : b ≠ g) => Below.heap_setCell w ⟨g, i, none⟩ u b hb
  exact ⟨⟨bx, ⟨ht.box.kept (ho _ (ht.box.ne hg (by decide))), ht.c0, ht.c1, ht.c2, ht.map.kept (ho _ (ht.map.ne hg)), own_kept ht.rows (fun b e => by cases e; exact ho _ (hd.ne hg (by decide))), own_kept ht.spare (fun b e => ho _ (fun e2 => h2 (e2 ▸ e))), ht.tx⟩, hx⟩, own_kept h.heap (fun b e => ho _ (fun e2 => h1 (e2 ▸ e))), h.apart⟩
set_option maxHeartbeats 1000000 in
theorem hput_W (h : HW X B db S L wv dv hv s w) {x p : Nat} (_hx : x < S.l.length) (hp : p < s.l.length) :
    Calls Try.prog 86 #[.pointer (some ⟨B, 0, none⟩), .int .i64 (x : Int), .int .i64 (p : Int)] w fun e w' => e = .returned (.tuple #[]) ∧ HW X B db S L wv dv hv (s.put x p) w' ∧ Trn (fun b => hv.ownBlock = some b) w w' := by
  have hown := h.heap
  obtain ⟨G, cap, rfl, hcap, hc⟩ := own_pos hown (by omega)
  have hcp := hc p hp
  have c0 := h.box.cell (i := 0) rfl
  have c2 := h.box.cell (i := 2) rfl
  obtain ⟨d2, hd2⟩ := own_blk hown
  have hset : OwnK encI1 1 3 0 (.slice (some ⟨G, 0, none⟩) s.l.length cap) (s.l.set p x) (w.setCell ⟨G, p, none⟩ (.int .i64 (x : Int))) :=
    ownK_set encI1_len hown hp (f := 0) (by omega) (u := .int .i64 (x : Int)) (a := x) rfl (q := p) (by omega)
  have nB : B ≠ G := h.box.ne hd2 (by decide)
  have nB' : ¬ G = B := fun e => nB e.symm
  have nd : db ≠ G := h.dbx.ne hd2 (by decide)
  have ap := h.apart G rfl
  have hfin : HW X B db S L wv dv (.slice (some ⟨G, 0, none⟩) s.l.length cap) (s.put x p) (w.setCell ⟨G, p, none⟩ (.int .i64 (x : Int))) := by
    refine ⟨h.due.off hd2 ap.1 ap.2, h.dbx.other nd _ _, h.box.other nB _ _, hset, ?_, h.hlen, h.ok, h.apart⟩
    show s.pl.set x p = []
    rw [h.pl]; rfl
  have t1 : Trn (fun b => (Value.slice (some ⟨G, 0, none⟩) s.l.length cap).ownBlock = some b) w (w.setCell ⟨G, p, none⟩ (.int .i64 (x : Int))) := Trn.set (f := fun b => (Value.slice (some ⟨G, 0, none⟩) s.l.length cap).ownBlock = some b) hd2 rfl p _
  have hfz := World.ownsRow.frozenAt hown
  have hl2 := h.hlen.2
  have qf : ∀ w : World, (binOp .neq 36 .nilFunc .nilFunc).run Try.prog w = .ok (.bool false) w := fun w => by kernel_rfl
  go_enter Try.func86, Try.ntmps86
  go_wp2
  go_end0
  exact ⟨rfl, hfin, t1⟩
set_option maxHeartbeats 2000000 in
theorem hahead_W (h : HW X B db S L wv dv hv s w) {i j : Nat} (hi : i < S.l.length) (hj : j < S.l.length) (n : Nat) :
    Calls Try.prog 73 #[.int .i64 (i : Int), .int .i64 (j : Int), .pointer (some ⟨db, 0, none⟩)] (w.drewN n) fun e w'' => e = .returned (.bool (Du.ltP S i j)) ∧ ∃ m, w'' = w.drewN m := by
  obtain ⟨_, _, d4, _, _, _, _⟩ := h.due.cells
  obtain ⟨G, cap, hdv, hcap, hc⟩ := own_pos h.due.heap (by show 0 < S.l.length; omega)
  subst hdv
  have ci := hc i hi
  have cj := hc j hj
  have k0 := h.dbx.cell (i := 0) rfl
  have hl2 := h.hlen.2
  have hok1 := h.ok S.l[i] (List.getElem_mem hi)
  have hok2 := h.ok S.l[j] (List.getElem_mem hj)
  have hah := fun m => dahead_any (h.due.same (w' := w.drewN m) rfl) hok1 hok2
  have e : Du.ltP S i j = Du.lt S.T.rows S.l[i] S.l[j] := by
    unfold Du.ltP
    rw [List.getD_eq_getElem?_getD, List.getD_eq_getElem?_getD, List.getElem?_eq_getElem hi, List.getElem?_eq_getElem hj]
    rfl
  rw [e]
  generalize S.l[i] = a at *
  generalize S.l[j] = b at *
  clear e hc
  refine Calls.quiet_of ?_
  generalize hW : w.drewN n = W
  have hcl : ∀ p, W.cell? p = w.cell? p := fun p => by rw [← hW]; rfl
  replace d4 := (hcl _).trans d4
  replace ci := (hcl _).trans ci
  replace cj := (hcl _).trans cj
  replace k0 := (hcl _).trans k0
  have hah2 : ∀ m, Calls Try.prog 42 #[.pointer (some ⟨X, 0, none⟩), .int .i64 (a : Int), .int .i64 (b : Int)] (W.drewN m) fun e w' => e = .returned (.bool (Du.lt S.T.rows a b)) ∧ ∃ n, w' = (W.drewN m).drewN n := fun m => by
    have := hah (n + m)
    rw [← hW, World.drewN_drewN]
    exact this
  clear hah hcl hW
  go_enter Try.func73, Try.ntmps73
  go_wp2_with fail
  go_quiet ((go_at_call 42; exact Calls.quiet_of (hah2 _)))
  go_wp2
  go_ret
  exact ⟨rfl, _, rfl⟩
end
end Go.Proofs.Ytchlemajppnehaa

/- The heap's list, one longer and one shorter: what lies in memory. -/
set_option maxRecDepth 100000
namespace Go.Proofs.Ytchlemajppnehaa
open Go Go.RowKit Go.Shelf Go.Maps
/-- After an append: what is kept. -/
theorem own_app {v : Value} {l : List Nat} {w w1 : World} {ob : Obj} {g : Nat} (h : OwnK encI1 1 3 0 v l w) (hg : (w.alloc ob).grownBy w1 v.ownBlock) (hl : v.ownBlock = some g ∨ g = (w.alloc ob).heap.size) :
    (v.ownBlock = some g ∨ w.heap.size ≤ g) ∧ (∀ b, b < w.heap.size → v.ownBlock ≠ some b → w1.heap[b]? = w.heap[b]?) ∧ Trn (fun b => v.ownBlock = some b) w w1 := by
  have hsz : (w.alloc ob).heap.size = w.heap.size + 1 := by simp
  have hb : ∀ b, b < w.heap.size → v.ownBlock ≠ some b → w1.heap[b]? = w.heap[b]? := fun b hb hne =>
    (hg.block b (by omega) (fun e => hne e.symm)).trans (Below.heap_alloc w ob b hb)
  have hs : w.heap.size ≤ w1.heap.size := by have := hg.size; omega
  refine ⟨hl.imp id (fun e => by omega), hb, hg.os, hg.tape, hg.output, hs, fun b hlt hn => hb b hlt hn, fun b ob' hob hbk => ?_⟩
  have hlt : b < w.heap.size := (Array.getElem?_eq_some_iff.1 hob).1
  refine (hb b hlt (fun e => ?_)).trans hob
  obtain ⟨c, hc⟩ := own_blk' h e
  rw [show w.heap[b]? = _ from hc] at hob
  cases hob
  cases hbk
namespace Hp
theorem rise_len (lt : Nat → Nat → Bool) : ∀ (k : Nat) (s : Sp) (x p : Nat), p ≤ k → (rise lt s x p).1.l.length = s.l.length ∧ (rise lt s x p).1.pl.length = s.pl.length := by
  intro k
  induction k with
  | zero => intro s x p h; rw [rise, dif_neg (by omega)]; simp [Sp.put]
  | succ k ih =>
    intro s x p h
    rw [rise]
    split
    · rename_i h0
      split
      · have := ih (s.put (s.at_ (above p)) p) x (above p) (by have := above_lt h0; omega)
        simp only [Sp.put, List.length_set] at this ⊢
        exact this
      · simp [Sp.put]
    · simp [Sp.put]
theorem rise_mem (lt : Nat → Nat → Bool) {Q : Nat → Prop} : ∀ (k : Nat) (s : Sp) (x p : Nat), p ≤ k → p < s.l.length → Q x → (∀ y ∈ s.l, Q y) → ∀ y ∈ (rise lt s x p).1.l, Q y := by
  have hput : ∀ (s : Sp) (x p : Nat), Q x → (∀ y ∈ s.l, Q y) → ∀ y ∈ (s.put x p).l, Q y := fun s x p hx hl y hy => by
    rcases List.mem_or_eq_of_mem_set hy with h | h
    · exact hl y h
    · exact h ▸ hx
  intro k
  induction k with
  | zero => intro s x p h _ hx hl; rw [rise, dif_neg (by omega)]; exact hput s x p hx hl
  | succ k ih =>
    intro s x p h hp hx hl
    rw [rise]
    split
    · rename_i h0
      have ha := above_lt h0
      have hq : Q (s.at_ (above p)) := by
        rw [show s.at_ (above p) = s.l[above p]'(by omega) by simp [Sp.at_, show above p < s.l.length by omega]]
        exact hl _ (List.getElem_mem _)
      split
      · exact ih _ x (above p) (by omega) (by simp [Sp.put]; omega) hx (hput s _ p hq hl)
      · exact hput s x p hx hl
    · exact hput s x p hx hl
end Hp
section
variable {X B db : Nat} {S : Du.St} {L : TL} {hv wv dv : Value} {s : Hp.Sp} {w w' w1 : World}
/-- Another list in the box, and nothing else of the Due changed. -/
theorem DueE.listed (h : DueE X S L hv wv w) {v : Value} {l : List Nat} (hk : ∀ b, b < w.heap.size → hv.ownBlock ≠ some b → w1.heap[b]? = w.heap[b]?) (ho : OwnK encI1 1 3 0 v l w1) (hvx : ∀ b, v.ownBlock = some b → hv.ownBlock = some b ∨ w.heap.size ≤ b) :
    (∀ b, v.ownBlock = some b → b ≠ X) ∧ w1.cell? ⟨X, 4, none⟩ = some hv ∧ (∀ i, w1.frozen? ⟨X, i, none⟩ = false) ∧ (∃ c t, Blk w1 X c t) ∧ DueE X { S with l := l } L v wv (w1.setCell ⟨X, 4, none⟩ v) := by
  have hR := h.hR
  obtain ⟨bx, ht, hx⟩ := h.ex
  obtain ⟨d, hd⟩ := own_blk ht.rows
  have hX := ht.box.lt
  have kX : hv.ownBlock ≠ some X := fun e => (hR X e).2.1 rfl
  have kM : hv.ownBlock ≠ some L.M := fun e => (hR L.M e).2.2 rfl
  have kR : hv.ownBlock ≠ some L.R := fun e => (hR L.R e).1 rfl
  have nX : ∀ b, v.ownBlock = some b → b ≠ X := fun b e => by
    rcases hvx b e with e | e
    · exact (hR b e).2.1
    · omega
  have hX1 : Blk w1 X bx tDue := ht.box.kept (hk X hX kX)
  have hset := fun b (hb : b ≠ X) => Below.heap_setCell w1 ⟨X, 4, none⟩ v b hb
  have sl : ∀ b, L.sv.ownBlock = some b → b < w.heap.size := fun b e => by obtain ⟨c, hc⟩ := own_blk' ht.spare e; exact hc.lt
  refine ⟨nX, hX1.cell hx.2.1, hX1.frozen, ⟨_, _, hX1⟩, ⟨bx.set 4 v, ⟨hX1.set _ _, ?_, ?_, ?_, (ht.map.kept (hk _ ht.map.lt kM)).kept (hset _ ht.neMX), own_kept ht.rows (fun b e => ?_), own_kept ht.spare (fun b e => ?_), ht.tx⟩, ?_⟩, own_kept ho (fun b e => hset b (nX b e)), fun b e e2 => ?_⟩
  · rw [List.getElem?_set_ne (by omega)]; exact ht.c0
  · rw [List.getElem?_set_ne (by omega)]; exact ht.c1
  · rw [List.getElem?_set_ne (by omega)]; exact ht.c2
  · cases e
    exact (hset _ (Ne.symm ht.neXR)).trans (hk _ hd.lt kR)
  · exact (hset _ (ht.neS e).1).trans (hk _ (sl b e) (fun e2 => h.apart b e2 e))
  · have h4 : 4 < bx.length := (List.getElem?_eq_some_iff.1 hx.2.1).1
    refine ⟨by rw [List.getElem?_set_ne (by omega)]; exact hx.1, by rw [List.getElem?_set_self h4], by rw [List.getElem?_set_ne (by omega)]; exact hx.2.2.1, by rw [List.getElem?_set_ne (by omega)]; exact hx.2.2.2.1, by rw [List.getElem?_set_ne (by omega)]; exact hx.2.2.2.2⟩
  · rcases hvx b e with e3 | e3
    · exact h.apart b e3 e2
    · exact absurd (sl b e2) (by omega)
theorem hlisted_D (h : HD X S L wv hv s w) {v : Value} {l : List Nat} (hk : ∀ b, b < w.heap.size → hv.ownBlock ≠ some b → w1.heap[b]? = w.heap[b]?) (ho : OwnK encI1 1 3 0 v l w1) (hvx : ∀ b, v.ownBlock = some b → hv.ownBlock = some b ∨ w.heap.size ≤ b) :
    (∀ b, v.ownBlock = some b → b ≠ X) ∧ w1.cell? ⟨X, 4, none⟩ = some hv ∧ (∀ i, w1.frozen? ⟨X, i, none⟩ = false) ∧ (∃ c t, Blk w1 X c t) ∧ HD X S L wv v ⟨l, s.pl⟩ (w1.setCell ⟨X, 4, none⟩ v) := by
  obtain ⟨a, b, c, d, e⟩ := h.due.listed hk ho hvx
  exact ⟨a, b, c, d, e, h.pl, h.hlen⟩
theorem hlisted_W (h : HW X B db S L wv dv hv s w) {v : Value} {l : List Nat} (hk : ∀ b, b < w.heap.size → hv.ownBlock ≠ some b → w1.heap[b]? = w.heap[b]?) (ho : OwnK encI1 1 3 0 v l w1) (hvx : ∀ b, v.ownBlock = some b → hv.ownBlock = some b ∨ w.heap.size ≤ b) :
    (∀ b, v.ownBlock = some b → b ≠ B) ∧ w1.cell? ⟨B, 0, none⟩ = some hv ∧ (∀ i, w1.frozen? ⟨B, i, none⟩ = false) ∧ (∃ c t, Blk w1 B c t) ∧ HW X B db S L wv dv v ⟨l, s.pl⟩ (w1.setCell ⟨B, 0, none⟩ v) := by
  have hd := h.due
  obtain ⟨bx, ht, hx⟩ := hd.ex
  have kB : hv.ownBlock ≠ some B := fun e => by obtain ⟨c, hc⟩ := own_blk' h.heap e; exact h.box.ne hc (by decide) rfl
  have kd : hv.ownBlock ≠ some db := fun e => by obtain ⟨c, hc⟩ := own_blk' h.heap e; exact h.dbx.ne hc (by decide) rfl
  have kX : hv.ownBlock ≠ some X := fun e => by obtain ⟨c, hc⟩ := own_blk' h.heap e; exact ht.box.ne hc (by decide) rfl
  have kM : hv.ownBlock ≠ some L.M := fun e => by obtain ⟨c, hc⟩ := own_blk' h.heap e; exact ht.map.ne hc rfl
  have kR : hv.ownBlock ≠ some L.R := fun e => by
    obtain ⟨c, hc⟩ := own_blk' h.heap e
    obtain ⟨d, hd⟩ := own_blk ht.rows
    exact hd.ne hc (by decide) rfl
  obtain ⟨dR, hdR⟩ := own_blk ht.rows
  have nB : ∀ b, v.ownBlock = some b → b ≠ B := fun b e => by
    rcases hvx b e with e | e
    · intro e2; subst e2; exact kB e
    · have := h.box.lt; omega
  have hB1 : Blk w1 B _ tHp := h.box.kept (hk B h.box.lt kB)
  have hset := fun b (hb : b ≠ B) => Below.heap_setCell w1 ⟨B, 0, none⟩ v b hb
  have keep : ∀ b, b < w.heap.size → hv.ownBlock ≠ some b → b ≠ B → (w1.setCell ⟨B, 0, none⟩ v).heap[b]? = w.heap[b]? := fun b h1 h2 h3 => (hset b h3).trans (hk b h1 h2)
  have sl : ∀ b, L.sv.ownBlock = some b → b < w.heap.size := fun b e => by obtain ⟨c, hc⟩ := own_blk' ht.spare e; exact hc.lt
  have dl : ∀ b, dv.ownBlock = some b → b < w.heap.size := fun b e => by obtain ⟨c, hc⟩ := own_blk' hd.heap e; exact hc.lt
  have sB : ∀ b, L.sv.ownBlock = some b → b ≠ B := fun b e e2 => by
    subst e2
    obtain ⟨c, hc⟩ := own_blk' ht.spare e
    exact h.box.ne hc (by decide) rfl
  have dB : ∀ b, dv.ownBlock = some b → b ≠ B := fun b e e2 => by
    subst e2
    obtain ⟨c, hc⟩ := own_blk' hd.heap e
    exact h.box.ne hc (by decide) rfl
  refine ⟨nB, hB1.cell rfl, hB1.frozen, ⟨_, _, hB1⟩, ⟨?_, h.dbx.kept (keep db h.dbx.lt kd (h.dbx.ne h.box (by decide))), ?_, own_kept ho (fun b e => hset b (nB b e)), h.pl, h.hlen, h.ok, fun b e => ?_⟩⟩
  · refine ⟨⟨bx, ⟨ht.box.kept (keep _ ht.box.lt kX (ht.box.ne h.box (by decide))), ht.c0, ht.c1, ht.c2, ht.map.kept (keep _ ht.map.lt kM (ht.map.ne h.box)), own_kept ht.rows (fun b e => by cases e; exact keep _ hdR.lt kR (hdR.ne h.box (by decide))), own_kept ht.spare (fun b e => keep b (sl b e) (fun e2 => (h.apart b e2).2 e) (sB b e)), ht.tx⟩, hx⟩, own_kept hd.heap (fun b e => keep b (dl b e) (fun e2 => (h.apart b e2).1 e) (dB b e)), hd.apart⟩
  · exact hB1.set _ _
  · rcases hvx b e with e3 | e3
    · exact h.apart b e3
    · exact ⟨fun e2 => absurd (dl b e2) (by omega), fun e2 => absurd (sl b e2) (by omega)⟩
end
end Go.Proofs.Ytchlemajppnehaa
