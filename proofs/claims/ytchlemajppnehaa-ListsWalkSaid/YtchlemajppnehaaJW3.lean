/- 2 texts put together: Lrow, LtabS. -/
import Derived.Maps.AppendAt
import Derived.WalkSpells
import Derived.Test.YtchlemajppnehaaJW1
import Derived.Test.YtchlemajppnehaaJW2
/- Rows by key: the pure table, and what lies in memory for one. -/
set_option maxRecDepth 100000
namespace Go.Proofs.Ytchlemajppnehaa
open Go Go.RowKit Go.Shelf Go.Maps
namespace Tb
structure Row where
  k : Int
  a : Int
  b : Nat
  c : Nat
def zero : Row := ⟨0, 0, 0, 0⟩
structure Tab where
  rows : List Row
  spare : List Nat
  g : Int → Option Nat
def Tab.at_ (T : Tab) (i : Nat) : Row := T.rows.getD i zero
/-- The place that a new key takes. -/
def Tab.free (T : Tab) : Nat := if T.spare = [] then T.rows.length else T.spare.getD (T.spare.length - 1) 0
def Tab.room (T : Tab) : List Row := if T.spare = [] then T.rows ++ [zero] else T.rows
def Tab.add (T : Tab) (k : Int) : Tab := ⟨T.room.set T.free { T.room.getD T.free zero with k := k }, T.spare.take (T.spare.length - 1), updO T.g k (some T.free)⟩
def Tab.drop (T : Tab) (i : Nat) : Tab := ⟨T.rows.set i zero, T.spare ++ [i], updO T.g (T.at_ i).k none⟩
end Tb
def encR (r : Tb.Row) : List Value := [.int .i64 r.k, .int .i64 r.a, encI r.b, encI r.c]
def encI1 (x : Nat) : List Value := [encI x]
theorem encR_len (r : Tb.Row) : (encR r).length = 4 := rfl
theorem encI1_len (x : Nat) : (encI1 x).length = 1 := rfl
theorem encR_one (r : Tb.Row) : ∀ u ∈ encR r, u.oneCell' = true := by intro u hu; simp [encR, encI] at hu; rcases hu with rfl | rfl | rfl | rfl <;> rfl
theorem encI1_one (r : Nat) : ∀ u ∈ encI1 r, u.oneCell' = true := by intro u hu; simp [encI1, encI] at hu; subst hu; rfl
structure TL where
  M : Nat
  n : Nat
  R : Nat
  cap : Nat
  sv : Value
/-- A table that lies at o in the box X; its rows are of the type tR. -/
structure TabE (tR : TypeId) (X o : Nat) (tX : TypeId) (bx : List Value) (T : Tb.Tab) (L : TL) (w : World) : Prop where
  box : Blk w X bx tX
  c0 : bx[o]? = some (.map (some L.M))
  c1 : bx[o + 1]? = some (.slice (some ⟨L.R, 0, none⟩) T.rows.length L.cap)
  c2 : bx[o + 2]? = some L.sv
  map : MapI L.M L.n T.g w
  rows : OwnK encR 4 tR 0 (.slice (some ⟨L.R, 0, none⟩) T.rows.length L.cap) T.rows w
  spare : OwnK encI1 1 3 0 L.sv T.spare w
  tx : tX ≠ tR ∧ tX ≠ 3 ∧ tR ≠ 3
section
variable {tR : TypeId} {X o : Nat} {tX : TypeId} {bx : List Value} {T : Tb.Tab} {L : TL} {w w' : World}
theorem TabE.below (h : TabE tR X o tX bx T L w) (hb : Below w.heap.size w w') : TabE tR X o tX bx T L w' :=
  ⟨h.box.kept (hb.block _ h.box.lt), h.c0, h.c1, h.c2, h.map.below hb, ownK_below h.rows hb, ownK_below h.spare hb, h.tx⟩
theorem TabE.cells (h : TabE tR X o tX bx T L w) : w.cell? ⟨X, o, none⟩ = some (.map (some L.M)) ∧ w.cell? ⟨X, o + 1, none⟩ = some (.slice (some ⟨L.R, 0, none⟩) T.rows.length L.cap) ∧ w.cell? ⟨X, o + 2, none⟩ = some L.sv :=
  ⟨h.box.cell h.c0, h.box.cell h.c1, h.box.cell h.c2⟩
theorem TabE.row (h : TabE tR X o tX bx T L w) {i : Nat} (hi : i < T.rows.length) : w.cell? ⟨L.R, i * 4, none⟩ = some (.int .i64 (T.at_ i).k) ∧ w.cell? ⟨L.R, i * 4 + 1, none⟩ = some (.int .i64 (T.at_ i).a) ∧ w.cell? ⟨L.R, i * 4 + 2, none⟩ = some (encI (T.at_ i).b) ∧ w.cell? ⟨L.R, i * 4 + 3, none⟩ = some (encI (T.at_ i).c) := by
  have e : T.rows[i] = T.at_ i := by simp [Tb.Tab.at_, hi]
  have k0 := ownK_cell encR_len h.rows hi (i := 0) (by omega)
  have k1 := ownK_cell encR_len h.rows hi (i := 1) (by omega)
  have k2 := ownK_cell encR_len h.rows hi (i := 2) (by omega)
  have k3 := ownK_cell encR_len h.rows hi (i := 3) (by omega)
  rw [e] at k0 k1 k2 k3
  simp only [Nat.zero_add, Nat.add_zero] at k0 k1 k2 k3
  exact ⟨k0, k1, k2, k3⟩
theorem TabE.rfroz (h : TabE tR X o tX bx T L w) (i : Nat) : w.frozen? ⟨L.R, i, none⟩ = false := World.ownsRow.frozenAt h.rows i
theorem own_blk {α : Type} {enc : α → List Value} {k : Nat} {e : TypeId} {base g n c : Nat} {l : List α} {W : World} (h : OwnK enc k e base (.slice (some ⟨g, 0, none⟩) n c) l W) : ∃ cur, Blk W g cur e := by
  rcases h.2 with ⟨e1, _⟩ | ⟨g', cap, cur, e1, hb, hg, _⟩
  · cases e1
  · cases e1
    exact ⟨cur.toList, by show W.heap[g]? = some (.cells cur.toList.toArray e (0, 0)); rw [hg]⟩
theorem own_blk' {α : Type} {enc : α → List Value} {k : Nat} {e : TypeId} {base g : Nat} {v : Value} {l : List α} {W : World} (h : OwnK enc k e base v l W) (hv : v.ownBlock = some g) : ∃ cur, Blk W g cur e := by
  rcases h.2 with ⟨rfl, _⟩ | ⟨g', cap, cur, rfl, hb, hg, _⟩
  · cases hv
  · cases hv
    exact ⟨cur.toList, by show W.heap[g']? = some (.cells cur.toList.toArray e (0, 0)); rw [hg]⟩
theorem own_cap {α : Type} {enc : α → List Value} {k : Nat} {e : TypeId} {base g n c : Nat} {l : List α} {W : World} (h : OwnK enc k e base (.slice (some ⟨g, 0, none⟩) n c) l W) : n = l.length ∧ l.length ≤ c ∧ c ≤ maxLen := by
  rcases h.2 with ⟨e1, _⟩ | ⟨g', cap, cur, e1, hb, hg, h1, h2, _⟩
  · cases e1
  · injection e1 with e1 e2 e3
    subst e2 e3
    exact ⟨rfl, h1, h2⟩
theorem run_takeI (G n c m : Nat) (h1 : m ≤ n) (h2 : n ≤ c) (W : World) : (Instr.slice 22 (.slice (some ⟨G, 0, none⟩) n c) none (some (.int .i64 (m : Int))) none).run Try.prog W = .ok (.slice (some ⟨G, 0, none⟩) m c) W := by
  have he : Try.prog.elem 22 = 3 := by simp [Program.elem, Try.underlying22]
  have hs : (sizeOf (Try.prog.elem 22)).run Try.prog W = .ok 1 W := by
    rw [he]
    obtain ⟨i, hi, _, h1, _⟩ := info_parts infoInt
    simp [sizeOf, typeInfo, hi, h1]
  rw [run_slice_h (w := W) 22 (some ⟨G, 0, none⟩) n c (by rw [he]; exact Try.underlying22) .i64 (m : Int) (by omega) (by omega), hs]
  simp [sliced, Result.andThen, Addr.add]
/-- A slice that is owned is kept where its block is. -/
theorem own_kept {α : Type} {enc : α → List Value} {k : Nat} {e : TypeId} {base : Nat} {v : Value} {l : List α} {W W' : World} (h : OwnK enc k e base v l W) (hb : ∀ g, v.ownBlock = some g → W'.heap[g]? = W.heap[g]?) : OwnK enc k e base v l W' := by
  refine ⟨h.1, ?_⟩
  rcases h.2 with h2 | ⟨g, cap, cur, rfl, h3, h4, h5⟩
  · exact .inl h2
  · exact .inr ⟨g, cap, cur, rfl, h3, (hb g rfl).trans h4, h5⟩
theorem TabE.neXR (h : TabE tR X o tX bx T L w) : X ≠ L.R := by
  obtain ⟨c, hc⟩ := own_blk h.rows
  exact h.box.ne hc h.tx.1
theorem TabE.neMX (h : TabE tR X o tX bx T L w) : L.M ≠ X := h.map.ne h.box
theorem TabE.neMR (h : TabE tR X o tX bx T L w) : L.M ≠ L.R := by
  obtain ⟨c, hc⟩ := own_blk h.rows
  exact h.map.ne hc
theorem TabE.neS (h : TabE tR X o tX bx T L w) {g : Nat} (hg : L.sv.ownBlock = some g) : g ≠ X ∧ g ≠ L.R ∧ g ≠ L.M := by
  obtain ⟨c, hc⟩ := own_blk h.rows
  obtain ⟨d, hd⟩ := own_blk' h.spare hg
  exact ⟨fun e => hd.ne h.box (Ne.symm h.tx.2.1) e, fun e => hd.ne hc (Ne.symm h.tx.2.2) e, fun e => h.map.ne hd e.symm⟩
/-- A field of a row is changed. -/
theorem TabE.set (h : TabE tR X o tX bx T L w) {i f q : Nat} (hi : i < T.rows.length) (hf : f < 4) {u : Value} {r : Tb.Row} (hr : encR r = (encR (T.at_ i)).set f u) (hq : q = i * 4 + f) :
    TabE tR X o tX bx ⟨T.rows.set i r, T.spare, T.g⟩ L (w.setCell ⟨L.R, q, none⟩ u) := by
  have e : T.rows[i] = T.at_ i := by simp [Tb.Tab.at_, hi]
  have ho := fun b (hb : b ≠ L.R) => Below.heap_setCell w ⟨L.R, q, none⟩ u b hb
  refine ⟨h.box.kept (ho _ h.neXR), h.c0, by rw [List.length_set]; exact h.c1, h.c2, h.map.kept (ho _ h.neMR), ?_, own_kept h.spare (fun g hg => ho _ (h.neS hg).2.1), h.tx⟩
  have := ownK_set encR_len h.rows hi hf (u := u) (a := r) (by rw [e]; exact hr) hq
  rw [List.length_set]
  exact this
/-- The map's entries are others. -/
theorem TabE.mapped (h : TabE tR X o tX bx T L w) {n' : Nat} {g' : Int → Option Nat} (hm : MapI L.M n' g' w') (ht : w.mapTurned w' L.M) : TabE tR X o tX bx ⟨T.rows, T.spare, g'⟩ { L with n := n' } w' := by
  have hb := fun b (hb : b ≠ L.M) => (turned_trn ht).block b
  have hx := h.box.lt
  obtain ⟨c, hc⟩ := own_blk h.rows
  refine ⟨h.box.trn (turned_trn ht) (Ne.symm h.neMX), h.c0, h.c1, h.c2, hm, own_kept h.rows (fun g hg => ?_), own_kept h.spare (fun g hg => ?_), h.tx⟩
  · cases hg
    exact hb _ (Ne.symm h.neMR) hc.lt (Ne.symm h.neMR)
  · obtain ⟨d, hd⟩ := own_blk' h.spare hg
    exact hb _ (h.neS hg).2.2 hd.lt (h.neS hg).2.2
/-- Nothing but the box's own cells. -/
theorem TabE.boxed (h : TabE tR X o tX bx T L w) {i : Nat} {u : Value} {bx' : List Value} {T' : Tb.Tab} {sv' : Value} (hb : bx' = bx.set i u) (h0 : bx'[o]? = some (.map (some L.M))) (h1 : bx'[o + 1]? = some (.slice (some ⟨L.R, 0, none⟩) T.rows.length L.cap)) (h2 : bx'[o + 2]? = some sv')
    (hr : T'.rows = T.rows) (hg : T'.g = T.g) (hs : OwnK encI1 1 3 0 sv' T'.spare w) (hsb : ∀ g, sv'.ownBlock = some g → g ≠ X) : TabE tR X o tX bx' T' { L with sv := sv' } (w.setCell ⟨X, i, none⟩ u) := by
  have ho := fun b (hb : b ≠ X) => Below.heap_setCell w ⟨X, i, none⟩ u b hb
  refine ⟨hb ▸ h.box.set i u, h0, by rw [hr]; exact h1, h2, hg ▸ h.map.kept (ho _ h.neMX), ?_, own_kept hs (fun g hg => ho _ (hsb g hg)), h.tx⟩
  rw [hr]
  exact own_kept h.rows (fun g hg => by cases hg; exact ho _ (Ne.symm h.neXR))
theorem TabE.same (h : TabE tR X o tX bx T L w) (hw : w'.heap = w.heap) : TabE tR X o tX bx T L w' := by
  refine ⟨h.box.kept (by rw [hw]), h.c0, h.c1, h.c2, h.map.kept (by rw [hw]), own_kept h.rows (fun g _ => by rw [hw]), own_kept h.spare (fun g _ => by rw [hw]), h.tx⟩
/-- A row more: it lies in its block, or in a new one. -/
theorem TabE.grown (h : TabE tR X o tX bx T L w) {ob : Obj} {w1 : World} {g cp : Nat} {rows' : List Tb.Row} (hg : (w.alloc ob).grownBy w1 (some L.R)) (ho : OwnK encR 4 tR 0 (.slice (some ⟨g, 0, none⟩) rows'.length cp) rows' w1)
    (hl : (Value.slice (some ⟨L.R, 0, none⟩) T.rows.length L.cap).ownBlock = some g ∨ g = (w.alloc ob).heap.size) (ho1 : o + 1 < bx.length) :
    (g = L.R ∨ w.heap.size ≤ g) ∧ X ≠ g ∧ L.M ≠ g ∧ (∀ b, b < w.heap.size → b ≠ L.R → w1.heap[b]? = w.heap[b]?) ∧ Trn (fun b => b = X ∨ b = L.R) w (w1.setCell ⟨X, o + 1, none⟩ (.slice (some ⟨g, 0, none⟩) rows'.length cp)) ∧
      TabE tR X o tX (bx.set (o + 1) (.slice (some ⟨g, 0, none⟩) rows'.length cp)) ⟨rows', T.spare, T.g⟩ { L with R := g, cap := cp } (w1.setCell ⟨X, o + 1, none⟩ (.slice (some ⟨g, 0, none⟩) rows'.length cp)) := by
  have hsz : (w.alloc ob).heap.size = w.heap.size + 1 := by simp
  have hx := h.box.lt
  have hm := h.map.lt
  have hgg : g = L.R ∨ w.heap.size ≤ g := by
    rcases hl with e | e
    · left; simpa [Value.ownBlock] using e.symm
    · right; omega
  have nX : X ≠ g := by rcases hgg with e | e; exact fun e2 => h.neXR (e2.trans e); omega
  have nM : L.M ≠ g := by rcases hgg with e | e; exact fun e2 => h.neMR (e2.trans e); omega
  have hb : ∀ b, b < w.heap.size → b ≠ L.R → w1.heap[b]? = w.heap[b]? := fun b hb hne =>
    (hg.block b (by omega) (by intro e; injection e with e; exact hne e)).trans (Below.heap_alloc w ob b hb)
  have hX1 : Blk w1 X bx tX := h.box.kept (hb X hx h.neXR)
  have hs : w.heap.size ≤ w1.heap.size := by have := hg.size; omega
  have t0 : Trn (fun b => b = X ∨ b = L.R) w w1 := ⟨hg.os, hg.tape, hg.output, hs, fun b hlt hn => hb b hlt (fun e => hn (.inr e)), fun b ob' hob hbk => by
    have hlt : b < w.heap.size := (Array.getElem?_eq_some_iff.1 hob).1
    refine (hb b hlt (fun e => ?_)).trans hob
    subst e
    obtain ⟨c, hc⟩ := own_blk h.rows
    rw [show w.heap[L.R]? = _ from hc] at hob
    cases hob
    cases hbk⟩
  have t1 := t0.trans (Trn.set (f := grow (fun b => b = X ∨ b = L.R) w w1) hX1 (.inl (.inl rfl)) (o + 1) (.slice (some ⟨g, 0, none⟩) rows'.length cp))
  have hset := fun b (hb : b ≠ X) => Below.heap_setCell w1 ⟨X, o + 1, none⟩ (.slice (some ⟨g, 0, none⟩) rows'.length cp) b hb
  refine ⟨hgg, nX, nM, hb, t1, hX1.set _ _, ?_, ?_, ?_, (h.map.kept (hb _ hm h.neMR)).kept (hset _ h.neMX), own_kept ho (fun b e => ?_), own_kept h.spare (fun b e => ?_), h.tx⟩
  · rw [List.getElem?_set_ne (by omega)]; exact h.c0
  · rw [List.getElem?_set_self ho1]
  · rw [List.getElem?_set_ne (by omega)]; exact h.c2
  · cases e
    exact hset _ (Ne.symm nX)
  · obtain ⟨d, hd⟩ := own_blk' h.spare e
    exact (hset _ (h.neS e).1).trans (hb _ hd.lt (h.neS e).2.1)
theorem at_set {rows : List Tb.Row} {i : Nat} {r : Tb.Row} {s : List Nat} {g : Int → Option Nat} (hi : i < rows.length) : (⟨rows.set i r, s, g⟩ : Tb.Tab).at_ i = r := by simp [Tb.Tab.at_, hi]
/-- A row is cleared, cell by cell. -/
theorem TabE.clear (h : TabE tR X o tX bx T L w) {i : Nat} (hi : i < T.rows.length) :
    TabE tR X o tX bx ⟨T.rows.set i Tb.zero, T.spare, T.g⟩ L ((((w.setCell ⟨L.R, i * 4, none⟩ (.int .i64 0)).setCell ⟨L.R, i * 4 + 1, none⟩ (.int .i64 0)).setCell ⟨L.R, i * 4 + 2, none⟩ (.int .i64 0)).setCell ⟨L.R, i * 4 + 3, none⟩ (.int .i64 0)) := by
  have h1 := h.set hi (f := 0) (q := i * 4) (u := .int .i64 0) (r := { T.at_ i with k := 0 }) (by omega) rfl (by omega)
  have h2 := h1.set (i := i) (f := 1) (q := i * 4 + 1) (u := .int .i64 0) (r := { T.at_ i with k := 0, a := 0 }) (by simpa using hi) (by omega) (by rw [at_set hi]; rfl) (by omega)
  have h3 := h2.set (i := i) (f := 2) (q := i * 4 + 2) (u := .int .i64 0) (r := { T.at_ i with k := 0, a := 0, b := 0 }) (by simpa using hi) (by omega) (by rw [at_set (by simpa using hi)]; rfl) (by omega)
  have h4 := h3.set (i := i) (f := 3) (q := i * 4 + 3) (u := .int .i64 0) (r := Tb.zero) (by simpa using hi) (by omega) (by rw [at_set (by simpa using hi)]; rfl) (by omega)
  simp only [List.set_set] at h4
  exact h4
theorem TabE.clear_trn (h : TabE tR X o tX bx T L w) {f : Nat → Prop} {w0 : World} (ht : Trn f w0 w) (hf : f L.R) (i : Nat) :
    Trn f w0 ((((w.setCell ⟨L.R, i * 4, none⟩ (.int .i64 0)).setCell ⟨L.R, i * 4 + 1, none⟩ (.int .i64 0)).setCell ⟨L.R, i * 4 + 2, none⟩ (.int .i64 0)).setCell ⟨L.R, i * 4 + 3, none⟩ (.int .i64 0)) := by
  obtain ⟨c, hc⟩ := own_blk h.rows
  have b1 := hc.set (i * 4) (.int .i64 0)
  have b2 := b1.set (i * 4 + 1) (.int .i64 0)
  have b3 := b2.set (i * 4 + 2) (.int .i64 0)
  exact (((ht.trans (Trn.set hc (.inl hf) _ _)).trans (Trn.set b1 (.inl hf) _ _)).trans (Trn.set b2 (.inl hf) _ _)).trans (Trn.set b3 (.inl hf) _ _)
/-- A place more is spare. -/
theorem TabE.spared (h : TabE tR X o tX bx T L w) {ob : Obj} {w1 : World} {g cp n : Nat} {s' : List Nat} (hg : (w.alloc ob).grownBy w1 L.sv.ownBlock) (ho : OwnK encI1 1 3 0 (.slice (some ⟨g, 0, none⟩) n cp) s' w1)
    (hl : L.sv.ownBlock = some g ∨ g = (w.alloc ob).heap.size) (ho1 : o + 2 < bx.length) :
    (L.sv.ownBlock = some g ∨ w.heap.size ≤ g) ∧ Blk w1 X bx tX ∧ Trn (fun b => b = X ∨ L.sv.ownBlock = some b) w (w1.setCell ⟨X, o + 2, none⟩ (.slice (some ⟨g, 0, none⟩) n cp)) ∧
      TabE tR X o tX (bx.set (o + 2) (.slice (some ⟨g, 0, none⟩) n cp)) ⟨T.rows, s', T.g⟩ { L with sv := .slice (some ⟨g, 0, none⟩) n cp } (w1.setCell ⟨X, o + 2, none⟩ (.slice (some ⟨g, 0, none⟩) n cp)) := by
  have hsz : (w.alloc ob).heap.size = w.heap.size + 1 := by simp
  have hx := h.box.lt
  have hm := h.map.lt
  obtain ⟨cR, hR⟩ := own_blk h.rows
  have hRl := hR.lt
  have hgg : L.sv.ownBlock = some g ∨ w.heap.size ≤ g := hl.imp id (fun e => by omega)
  have nX : X ≠ g := by rcases hgg with e | e; exact fun e2 => (h.neS e).1 e2.symm; omega
  have hb : ∀ b, b < w.heap.size → L.sv.ownBlock ≠ some b → w1.heap[b]? = w.heap[b]? := fun b hb hne =>
    (hg.block b (by omega) (fun e => hne e.symm)).trans (Below.heap_alloc w ob b hb)
  have fX : L.sv.ownBlock ≠ some X := fun e => (h.neS e).1 rfl
  have hX1 : Blk w1 X bx tX := h.box.kept (hb X hx fX)
  have hs : w.heap.size ≤ w1.heap.size := by have := hg.size; omega
  have t0 : Trn (fun b => b = X ∨ L.sv.ownBlock = some b) w w1 := ⟨hg.os, hg.tape, hg.output, hs, fun b hlt hn => hb b hlt (fun e => hn (.inr e)), fun b ob' hob hbk => by
    have hlt : b < w.heap.size := (Array.getElem?_eq_some_iff.1 hob).1
    refine (hb b hlt (fun e => ?_)).trans hob
    obtain ⟨c, hc⟩ := own_blk' h.spare e
    rw [show w.heap[b]? = _ from hc] at hob
    cases hob
    cases hbk⟩
  have t1 := t0.trans (Trn.set (f := grow (fun b => b = X ∨ L.sv.ownBlock = some b) w w1) hX1 (.inl (.inl rfl)) (o + 2) (.slice (some ⟨g, 0, none⟩) n cp))
  have hset := fun b (hb : b ≠ X) => Below.heap_setCell w1 ⟨X, o + 2, none⟩ (.slice (some ⟨g, 0, none⟩) n cp) b hb
  refine ⟨hgg, hX1, t1, hX1.set _ _, ?_, ?_, ?_, (h.map.kept (hb _ hm (fun e => (h.neS e).2.2 rfl))).kept (hset _ h.neMX), own_kept h.rows (fun b e => ?_), own_kept ho (fun b e => ?_), h.tx⟩
  · rw [List.getElem?_set_ne (by omega)]; exact h.c0
  · rw [List.getElem?_set_ne (by omega)]; exact h.c1
  · rw [List.getElem?_set_self ho1]
  · cases e
    exact (hset _ (Ne.symm h.neXR)).trans (hb _ hRl (fun e => (h.neS e).2.1 rfl))
  · cases e
    exact hset _ (Ne.symm nX)
end
/-- What has become of a table. -/
structure TabTo (tR : TypeId) (X o : Nat) (tX : TypeId) (bx : List Value) (L : TL) (w : World) (d : Nat) (T' : Tb.Tab) (w' : World) : Prop where
  ex : ∃ L' bx', TabE tR X o tX bx' T' L' w' ∧ Trn (fun b => b = X ∨ b = L.M ∨ b = L.R ∨ L.sv.ownBlock = some b) w w' ∧ L'.M = L.M ∧ L'.n ≤ L.n + d ∧ (L'.R = L.R ∨ w.heap.size ≤ L'.R) ∧ (∀ g, L'.sv.ownBlock = some g → L.sv.ownBlock = some g ∨ w.heap.size ≤ g) ∧ bx'.length = bx.length ∧ ∀ i, i ≠ o + 1 → i ≠ o + 2 → bx'[i]? = bx[i]?
theorem Trn.set_own {α : Type} {enc : α → List Value} {k : Nat} {e : TypeId} {base g n c : Nat} {l : List α} {f : Nat → Prop} {w W : World} (h : Trn f w W) (ho : OwnK enc k e base (.slice (some ⟨g, 0, none⟩) n c) l W) (hg : f g ∨ w.heap.size ≤ g) (i : Nat) (u : Value) : Trn f w (W.setCell ⟨g, i, none⟩ u) := by
  obtain ⟨d, hd⟩ := own_blk ho
  exact h.trans (Trn.set (f := grow f w W) hd (hg.imp id (fun e => ⟨e, hd.lt⟩)) i u)
theorem Trn.turned {f : Nat → Prop} {w W W' : World} {M : Nat} (h : Trn f w W) (ht : W.mapTurned W' M) (hf : f M) : Trn f w W' := h.trans ((turned_trn ht).mono fun _ _ e => e ▸ .inl hf)
end Go.Proofs.Ytchlemajppnehaa

/- Rows by key, of a seat: takes, find, add, drop. -/
set_option maxRecDepth 100000
namespace Go.Proofs.Ytchlemajppnehaa
open Go Go.RowKit Go.Shelf Go.Maps
abbrev tS : TypeId := 111
theorem qMapS (w : World) (r : Option Nat) : (binOp .neq 55 (.map r) (.map none)).run Try.prog w = .ok (.bool (!r.isNone)) w := run_neq_map_nil w _ _ _ r Try.underlying55
section
variable {X o : Nat} {tX : TypeId} {bx : List Value} {T : Tb.Tab} {L : TL} {w : World}
theorem takesS (h : TabE tS X o tX bx T L w) (k : Int) (hk : I64 k) :
    Calls Try.prog 58 #[.pointer (some ⟨X, o, none⟩), .int .i64 k] w fun e w' => e = .returned (.bool true) ∧ Below w.heap.size w w' := by
  obtain ⟨c0, _, _⟩ := h.cells
  have q := qMapS
  go_enter Try.func58, Try.ntmps58
  go_wp2_with (go_at_call 67; refine (able_any k hk _).mono ?_; rintro e w1 ⟨rfl, b1⟩)
  go_ret
  exact ⟨rfl, b1⟩
theorem findS (h : TabE tS X o tX bx T L w) (k : Int) (hk : I64 k) :
    Calls Try.prog 78 #[.pointer (some ⟨X, o, none⟩), .int .i64 k] w fun e w' => e = .returned (.tuple #[.int .i64 (((T.g k).getD 0 : Nat) : Int), .bool (T.g k).isSome]) ∧ Below w.heap.size w w' := by
  go_enter Try.func78, Try.ntmps78
  go_wp2_with (go_at_call 58; refine (takesS h k hk).mono ?_; rintro e w1 ⟨rfl, b1⟩; have c0 := (h.below b1).cells.1; have hl := (h.below b1).map.look hk)
  go_ret2
  exact ⟨rfl, b1⟩
theorem infoS : (Try.prog.info? tS).map (fun i => (i.zero, i.size, i.bytes)) = some (some (.agg #[.int .i64 0, .int .i64 0, .int .i64 0, .int .i64 0]), 4, 32) := by kernel_rfl
set_option maxHeartbeats 2000000 in
theorem addS_new (h : TabE tS X o tX bx T L w) (k : Int) (hk : I64 k) (hs : T.spare = []) (hlen : T.rows.length < 100000) (hn : L.n < 1000000) :
    Calls Try.prog 62 #[.pointer (some ⟨X, o, none⟩), .int .i64 k] w fun e w' => e = .returned (encI T.free) ∧ TabTo tS X o tX bx L w 1 (T.add k) w' := by
  obtain ⟨c0, c1, c2⟩ := h.cells
  obtain ⟨ao, cap, hsv, _⟩ := ownK_form h.spare
  rw [hs] at hsv
  rw [hsv] at c2
  have hfz := h.box.frozen
  go_enter Try.func62, Try.ntmps62
  go_wp2_with (first
    | (at_builtin; refine wpList_apK encR_len (by decide) encR_one (x := fun _ => True) Try.underlying77 infoS rfl (by decide) rfl _ _ rfl 0 (.slice (some ⟨L.R, 0, none⟩) T.rows.length L.cap) T.rows rfl (ownK_alloc h.rows _) (.slice (some ⟨w.heap.size, 0, none⟩) 1 1) [Tb.zero] (by simp) rfl ((RK.one Tb.zero _ w)) (by simp; omega) (Nat.zero_le _) ?_
       intro g cp w1 ho1 hg1 hl1
       obtain ⟨hgg, nX, nM, hb, t1, hT1⟩ := h.grown hg1 ho1 hl1 (by have := (List.getElem?_eq_some_iff.1 h.c2).1; omega)
       have hX1 : Blk w1 X bx tX := h.box.kept (hb X h.box.lt h.neXR)
       have d0 := hX1.cell h.c0
       have d1 := hX1.cell h.c1
       have d2 := hX1.frozen
       have hgX : ¬ g = X := fun e => nX e.symm
       have hXg : ¬ X = g := nX
       have kk := ownK_cell encR_len ho1 (j := T.rows.length) (i := 0) (by simp) (by omega)
       have kf := fun i => World.ownsRow.frozenAt ho1 i
       simp at kk
       have hs2 := hT1.set (i := T.rows.length) (f := 0) (q := T.rows.length * 4) (u := .int .i64 k) (r := { Tb.zero with k := k }) (by simp) (by omega) (by simp [Tb.Tab.at_]; rfl) (by omega)
       have t2 := (t1.mono (g := fun b => b = X ∨ b = L.M ∨ b = L.R ∨ L.sv.ownBlock = some b) (fun b _ e => e.elim .inl (fun e => .inr (.inr (.inl e))))).set_own hT1.rows (by rcases hgg with e | e; exact .inl (.inr (.inr (.inl e))); exact .inr e) (T.rows.length * 4) (.int .i64 k)
       simp only [List.length_append, List.length_singleton] at t2 hs2)
    | (at_mapUpdate; go_loud (
       refine wpList_mapI _ rfl _ _ _ rfl L.M L.n T.g k T.rows.length rfl hs2.map (by unfold maxLen; omega) rfl rfl hk (i64_of (by omega) (by omega)) ?_
       intro w2 hm2 ht2
       have hT2 := hs2.mapped hm2 ht2
       have t3 := t2.turned ht2 (.inr (.inl rfl)))))
  go_ret
  have e1 : T.free = T.rows.length := by unfold Tb.Tab.free; rw [if_pos hs]
  have e2 : T.add k = ⟨(T.rows ++ [Tb.zero]).set T.rows.length { Tb.zero with k := k }, T.spare, updO T.g k (some T.rows.length)⟩ := by
    unfold Tb.Tab.add Tb.Tab.room
    rw [e1, hs, if_pos rfl]
    simp
  rw [e1, e2]
  exact ⟨rfl, ⟨_, _, hT2, t3, rfl, Nat.le_refl _, hgg, fun g e => .inl e, by simp, fun i h1 h2 => List.getElem?_set_ne (Ne.symm h1)⟩⟩
set_option maxHeartbeats 2000000 in
theorem addS_old (h : TabE tS X o tX bx T L w) (k : Int) (hk : I64 k) {s : List Nat} {j : Nat} (hs : T.spare = s ++ [j]) (hj : j < T.rows.length) (hlen : T.rows.length < 100000) (hsl : s.length < 100000) (hn : L.n < 1000000) :
    Calls Try.prog 62 #[.pointer (some ⟨X, o, none⟩), .int .i64 k] w fun e w' => e = .returned (encI T.free) ∧ TabTo tS X o tX bx L w 1 (T.add k) w' := by
  obtain ⟨c0, c1, c2⟩ := h.cells
  have hspare := h.spare
  obtain ⟨ao, cap, hsv, hf⟩ := ownK_form h.spare
  obtain ⟨G, rfl⟩ := hf (by simp [hs])
  rw [hs, List.length_append, List.length_singleton] at hsv
  rw [hsv] at c2
  rw [hsv, hs] at hspare
  have hcap := (own_cap hspare).2
  rw [List.length_append, List.length_singleton] at hcap
  have hfz := h.box.frozen
  obtain ⟨r0, _⟩ := h.row hj
  have rf := h.rfroz
  have hXR : ¬ X = L.R := h.neXR
  have hRX : ¬ L.R = X := fun e => hXR e.symm
  have kj := ownK_cell encI1_len hspare (j := s.length) (i := 0) (by simp) (by omega)
  simp [encI1, encI] at kj
  have hrun := run_takeI G (s.length + 1) cap s.length (by omega) hcap.1
  go_enter Try.func62, Try.ntmps62
  go_wp2_with fail
  go_region
  have hG : G ≠ X := (h.neS (g := G) (by rw [hsv]; rfl)).1
  have hlen2 := (List.getElem?_eq_some_iff.1 h.c2).1
  have hT1 := h.boxed (i := o + 2) (u := .slice (some ⟨G, 0, none⟩) s.length cap) (T' := ⟨T.rows, s, T.g⟩) rfl (by rw [List.getElem?_set_ne (by omega)]; exact h.c0) (by rw [List.getElem?_set_ne (by omega)]; exact h.c1) (List.getElem?_set_self hlen2) rfl rfl
    (by have := ownK_take encI1_len hspare s.length (by simp); rw [List.take_left' rfl] at this; exact this) (fun g e => by cases e; exact hG)
  have hs2 := hT1.set (i := j) (f := 0) (q := j * 4) (u := .int .i64 k) (r := { T.at_ j with k := k }) hj (by omega) rfl (by omega)
  have t1 : Trn (fun b => b = X ∨ b = L.M ∨ b = L.R ∨ L.sv.ownBlock = some b) w _ := Trn.set (W := w) h.box (.inl rfl) (o + 2) (.slice (some ⟨G, 0, none⟩) s.length cap)
  have t2 := t1.set_own hT1.rows (.inl (.inr (.inr (.inl rfl)))) (j * 4) (.int .i64 k)
  go_wp2_with (at_mapUpdate; go_loud (
       refine wpList_mapI _ rfl _ _ _ rfl L.M L.n T.g k j rfl (hs2.map.kept rfl) (by unfold maxLen; omega) rfl rfl hk (i64_of (by omega) (by omega)) ?_
       intro w2 hm2 ht2))
  go_ret
  have hT2 := (hs2.same (w' := World.drew _) rfl).mapped hm2 ht2
  have t3 := (t2.trans (Trn.drew _ 1)).turned ht2 (.inr (.inl rfl))
  have e1 : T.free = j := by unfold Tb.Tab.free; rw [if_neg (by simp [hs])]; simp [hs]
  have e2 : T.add k = ⟨T.rows.set j { T.at_ j with k := k }, s, updO T.g k (some j)⟩ := by
    unfold Tb.Tab.add Tb.Tab.room
    rw [e1, if_neg (by simp [hs]), hs]
    simp [Tb.Tab.at_]
  rw [e1, e2]
  exact ⟨rfl, ⟨_, _, hT2, t3, rfl, Nat.le_refl _, .inl rfl, fun g e => .inl (by rw [hsv]; exact e), by simp, fun i h1 h2 => List.getElem?_set_ne (Ne.symm h2)⟩⟩
theorem addS (h : TabE tS X o tX bx T L w) (k : Int) (hk : I64 k) (hsp : ∀ j ∈ T.spare, j < T.rows.length) (hlen : T.rows.length < 100000) (hsl : T.spare.length < 100000) (hn : L.n < 1000000) :
    Calls Try.prog 62 #[.pointer (some ⟨X, o, none⟩), .int .i64 k] w fun e w' => e = .returned (encI T.free) ∧ TabTo tS X o tX bx L w 1 (T.add k) w' := by
  rcases List.eq_nil_or_concat T.spare with hs | ⟨s, j, hs⟩
  · exact addS_new h k hk hs hlen hn
  · rw [List.concat_eq_append] at hs
    rw [hs, List.length_append] at hsl
    exact addS_old h k hk hs (hsp j (by simp [hs])) hlen (by omega) hn
set_option maxHeartbeats 2000000 in
theorem dropS (h : TabE tS X o tX bx T L w) {i : Nat} (hi : i < T.rows.length) (hk : I64 (T.at_ i).k) (hsl : T.spare.length < 100000) :
    Calls Try.prog 66 #[.pointer (some ⟨X, o, none⟩), .int .i64 (i : Int)] w fun e w' => e = .returned (.tuple #[]) ∧ TabTo tS X o tX bx L w 0 (T.drop i) w' := by
  obtain ⟨c0, c1, c2⟩ := h.cells
  have hfz := h.box.frozen
  obtain ⟨r0, r1, r2, r3⟩ := h.row hi
  have rf := h.rfroz
  have hXR : ¬ X = L.R := h.neXR
  have hRX : ¬ L.R = X := fun e => hXR e.symm
  obtain ⟨w2, hd2, hm2, ht2⟩ := run_delI (w := w.drew) (h.map.kept rfl) hk 0
  go_enter Try.func66, Try.ntmps66
  go_wp2_with fail
  go_region
  have hT1 := (h.same (w' := w.drew) rfl).mapped hm2 ht2
  have t1 : Trn (fun b => b = X ∨ b = L.M ∨ b = L.R ∨ L.sv.ownBlock = some b) w w2 := (Trn.drew w 1).turned ht2 (.inr (.inl rfl))
  have t2 := hT1.clear_trn t1 (.inr (.inr (.inl rfl))) i
  clear hd2 c0 c1 c2 hfz r0 r1 r2 r3 rf
  obtain ⟨c0, c1, c2⟩ := hT1.cells
  have hfz := hT1.box.frozen
  obtain ⟨r0, r1, r2, r3⟩ := hT1.row hi
  have rf := hT1.rfroz
  have hT2 := hT1.clear hi
  simp only at c0 c1 c2 r0 r1 r2 r3 rf
  go_wp2_with (at_builtin; go_loud (
       refine wpList_apK encI1_len (by decide) encI1_one (x := fun _ => True) Try.underlying22 infoInt rfl (by decide) rfl _ _ rfl 0 L.sv T.spare rfl (ownK_alloc hT2.spare _) (.slice (some ⟨w2.heap.size, 0, none⟩) 1 1) [i] (by simp) rfl (RK.oneN (enc := encI1) i 3 _ _ (by simp) _ rfl) (by simp; omega) (Nat.zero_le _) ?_
       intro g cp w3 ho3 hg3 hl3
       obtain ⟨hgg, hX3, t3, hT3⟩ := hT2.spared hg3 ho3 hl3 (List.getElem?_eq_some_iff.1 h.c2).1
       have d2 := hX3.cell h.c2
       have f2 := hX3.frozen))
  go_end0
  have hs2 := (turned_trn ht2).size
  have t4 := t2.trans (t3.mono fun b _ e => .inl (e.elim .inl (fun e => .inr (.inr (.inr e)))))
  simp only [List.length_append, List.length_singleton] at t4 hT3
  refine ⟨rfl, ⟨_, _, hT3, t4, rfl, Nat.le_refl _, .inl rfl, fun b e => ?_, by simp, fun j h1 h2 => List.getElem?_set_ne (Ne.symm h2)⟩⟩
  cases e
  refine hgg.imp id (fun e => ?_)
  simp at e
  exact Nat.le_trans hs2 e
end
end Go.Proofs.Ytchlemajppnehaa
