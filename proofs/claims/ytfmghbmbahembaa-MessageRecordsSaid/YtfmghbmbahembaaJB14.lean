/- 2 texts put together: Number, Folded. -/
import Derived.Laws.OwnMore
import Derived.Test.YtfmghbmbahembaaJB3
import Derived.Test.YtfmghbmbahembaaJB4
import Derived.Test.YtfmghbmbahembaaJB7
import Derived.Test.YtfmghbmbahembaaJB8
import Derived.Test.YtfmghbmbahembaaJB9
/- Numbers of four bytes: number, four, appendFour. -/
namespace Go.Proofs.Ytfmghbmbahembaa
open Go.RowKit Go.Shelf
attribute [local go_sem] Oper.semAt_some

theorem wraps_i64 (n : Int) (h0 : 0 ≤ n) (h1 : n < 2 ^ 62) : IntKind.i64.wrap n = n := by rw [IntKind.wrap_i64]; omega
theorem or8 (x y : Int) (h0 : 0 ≤ x) (h1 : x % 256 = 0) (h2 : x < 1099511627776) (h3 : 0 ≤ y) (h4 : y < 256) : bits .or .i64 x y = x + y :=
  bits_join .i64 62 (by decide) wraps_i64 8 x y h0 h1 (by omega) h3 h4 (by omega)
theorem or16 (x y : Int) (h0 : 0 ≤ x) (h1 : x % 65536 = 0) (h2 : x < 1099511627776) (h3 : 0 ≤ y) (h4 : y < 65536) : bits .or .i64 x y = x + y :=
  bits_join .i64 62 (by decide) wraps_i64 16 x y h0 h1 (by omega) h3 h4 (by omega)
theorem or24 (x y : Int) (h0 : 0 ≤ x) (h1 : x % 16777216 = 0) (h2 : x < 1099511627776) (h3 : 0 ≤ y) (h4 : y < 16777216) : bits .or .i64 x y = x + y :=
  bits_join .i64 62 (by decide) wraps_i64 24 x y h0 h1 (by omega) h3 h4 (by omega)

theorem num4_eq (a b c d : UInt8) : bits .or .i64 (bits .or .i64 (bits .or .i64 (wrap64 (wrap64 (a.toNat : Int) * 16777216)) (wrap64 (wrap64 (b.toNat : Int) * 65536))) (wrap64 (wrap64 (c.toNat : Int) * 256))) (wrap64 (d.toNat : Int)) = (Rd.num4 a b c d : Int) := by
  have ha := a.toNat_lt
  have hb := b.toNat_lt
  have hc := c.toNat_lt
  have hd := d.toNat_lt
  have e : ∀ z : Int, 0 ≤ z → z < 1099511627776 → wrap64 z = z := fun z h0 h1 => by unfold wrap64; omega
  rw [e (a.toNat : Int) (by omega) (by omega), e (b.toNat : Int) (by omega) (by omega), e (c.toNat : Int) (by omega) (by omega), e (d.toNat : Int) (by omega) (by omega)]
  rw [e _ (by omega) (by omega), e _ (by omega) (by omega), e _ (by omega) (by omega)]
  rw [or24 ((a.toNat : Int) * 16777216) ((b.toNat : Int) * 65536) (by omega) (by omega) (by omega) (by omega) (by omega), or16 ((a.toNat : Int) * 16777216 + (b.toNat : Int) * 65536) ((c.toNat : Int) * 256) (by omega) (by omega) (by omega) (by omega) (by omega), or8 _ _ (by omega) (by omega) (by omega) (by omega) (by omega)]
  unfold Rd.num4
  omega

set_option maxRecDepth 100000 in
set_option maxHeartbeats 1000000 in
theorem number_any (a b c d : UInt8) (w : World) :
    Calls Try.prog 30 #[.string ⟨#[a, b, c, d]⟩] w fun e w' => e = .returned (.int .i64 (Rd.num4 a b c d : Int)) ∧ Drew w w' := by
  have ha := a.toNat_lt
  have hb := b.toNat_lt
  have hc := c.toNat_lt
  have hd := d.toNat_lt
  go_enter Try.func30, Try.ntmps30
  go_wp2
  go_quiet (fail)
  go_wp2
  go_ret
  exact ⟨ret_int (num4_eq a b c d), ⟨nq, rfl⟩⟩

theorem bytes_four (v : Int) : (Rd.four v).map encB = [.int .u8 (v / 16777216 % 256), .int .u8 (v / 65536 % 256), .int .u8 (v / 256 % 256), .int .u8 (v % 256)] := by
  have e : ∀ z : Int, encB (UInt8.ofNat (z % 256).toNat) = .int .u8 (z % 256) := fun z => by
    unfold encB
    rw [UInt8.toNat_ofNat', Nat.mod_eq_of_lt (by omega), Int.toNat_of_nonneg (by omega)]
  simp only [Rd.four, List.map_cons, List.map_nil, e]

set_option maxRecDepth 100000 in
set_option maxHeartbeats 1000000 in
theorem rfour_any (v : Int) (w : World) (_h0 : -9223372036854775808 ≤ v) (_h1 : v ≤ 9223372036854775807) :
    Calls Try.prog 53 #[.int .i64 v] w fun e w' => e = .returned (.string ⟨(Rd.four v).toArray⟩) ∧ Below w.heap.size w w' := by
  have hF := bytes_four v
  obtain ⟨F, hFF⟩ : ∃ F, Rd.four v = F := ⟨_, rfl⟩
  have hl : F.length = 4 := by rw [← hFF]; rfl
  rw [hFF] at hF ⊢
  have hst : (convert 22 9 (.slice (some ⟨w.heap.size, 0, none⟩) 4 4)).run Try.prog (w.alloc (.cells #[.int .u8 (v / 16777216 % 256), .int .u8 (v / 65536 % 256), .int .u8 (v / 256 % 256), .int .u8 (v % 256)] 5)) = .ok (.string ⟨F.toArray⟩) (w.alloc (.cells #[.int .u8 (v / 16777216 % 256), .int .u8 (v / 65536 % 256), .int .u8 (v / 256 % 256), .int .u8 (v % 256)] 5)) := by
    have h := run_lit_str F [.int .u8 (v / 16777216 % 256), .int .u8 (v / 65536 % 256), .int .u8 (v / 256 % 256), .int .u8 (v % 256)] hF w
    rw [hl] at h
    exact h
  clear hFF hF hl
  go_enter Try.func53, Try.ntmps53
  go_wp2
  go_ret
  exact ⟨rfl, (Below.refl _ w).alloc (Nat.le_refl _) _⟩

end Go.Proofs.Ytfmghbmbahembaa

/- folded: what is compared of a record. -/
namespace Go.Proofs.Ytfmghbmbahembaa
open Go.RowKit Go.Shelf
attribute [local go_sem] Oper.semAt_some

theorem below5 {B : Nat} {w W : World} (h : Below B w W) {g : Nat} (hg : B ≤ g) (a b c d e : Value) : Below B w (((((W.setCell ⟨g, 0, none⟩ a).setCell ⟨g, 1, none⟩ b).setCell ⟨g, 2, none⟩ c).setCell ⟨g, 3, none⟩ d).setCell ⟨g, 4, none⟩ e) :=
  ((((h.setCell (p := ⟨g, 0, none⟩) hg a).setCell (p := ⟨g, 1, none⟩) hg b).setCell (p := ⟨g, 2, none⟩) hg c).setCell (p := ⟨g, 3, none⟩) hg d).setCell (p := ⟨g, 4, none⟩) hg e

namespace Rd
theorem fold_len (l : List UInt8) : (Nm.fold l).length = l.length := by
  unfold Nm.fold
  split
  · exact Nm.folded_length l
  · rfl
theorem fold1_len {d : List UInt8} {p : Nat × Nat} (h : p.1 + p.2 ≤ d.length) : (fold1 d p).length = d.length := by
  unfold fold1
  simp only [List.length_append, List.length_take, List.length_drop, fold_len]
  omega
theorem foldP_snoc (ps : List (Nat × Nat)) (p : Nat × Nat) (d : List UInt8) : foldP (ps ++ [p]) d = fold1 (foldP ps d) p := by
  simp [foldP]
theorem foldP_len : ∀ (ps : List (Nat × Nat)) (d : List UInt8), (∀ p ∈ ps, p.1 + p.2 ≤ d.length) → (foldP ps d).length = d.length
  | [], _, _ => rfl
  | p :: ps, d, h => by
    have h1 := fold1_len (h p (by simp))
    have h2 := foldP_len ps (fold1 d p) (fun q hq => by rw [h1]; exact h q (List.mem_cons_of_mem _ hq))
    show (foldP ps (fold1 d p)).length = _
    rw [h2, h1]
theorem partsD_bound {t : Int} {d : List UInt8} : ∀ p ∈ partsD t d, p.1 + p.2 ≤ d.length := by
  unfold partsD
  cases hp : parts t d with
  | none => intro p h; cases h
  | some ps => exact (parts_bound hp).2
theorem prefix_bound {t : Int} {d : List UInt8} {pre : List (Nat × Nat)} {x : Nat × Nat} (h : pre ++ [x] <+: partsD t d) : (foldP pre d).length = d.length ∧ x.1 + x.2 ≤ d.length := by
  have hb := partsD_bound (t := t) (d := d)
  exact ⟨foldP_len pre d (fun p hp => hb p (h.subset (by simp [hp]))), hb x (h.subset (by simp))⟩
end Rd

/-- s[:hi] of a string. -/
theorem run_to {P : Program} {t : TypeId} (h : P.underlying t = some .string) {l l' : List UInt8} {hi : Int} (h0 : 0 ≤ hi) (h2 : hi ≤ l.length) (hl : l' = l.take hi.toNat) (w : World) :
    (Instr.slice t (.string ⟨l.toArray⟩) none (some (.int .i64 hi)) none).run P w = .ok (.string ⟨l'.toArray⟩) w := by
  have hb : 0 ≤ hi ∧ hi ≤ ((⟨l.toArray⟩ : ByteArray).size : Int) := ⟨h0, by show hi ≤ (l.toArray.size : Int); simpa using h2⟩
  simp only [run_slice_string_to_if w t ⟨l.toArray⟩ .i64 hi h]
  rw [if_pos (by first | exact hb | exact hb.2)]
  rw [ByteArray.extract_mk, hl, List.drop_zero, Nat.sub_zero]

/-- A block of cells, whatever its size. -/
def Block (W : World) (B : Nat) (cs : Array Value) (t : TypeId) : Prop := W.heap[B]? = some (.cells cs t (0, 0))
theorem block_own {β : Type} (B : Nat) (cs : Array Value) (t : TypeId) : Own (fun (_ : β) W => Block W B cs t) := fun s X Y row hs hg hrow =>
  (hg.block B (Array.getElem?_eq_some_iff.1 hs).1 (fun e => by
    obtain ⟨o, ho, hc⟩ := hrow B e.symm
    rw [show X.heap[B]? = _ from hs] at ho
    cases ho
    cases hc)).trans hs
theorem Block.cell {W : World} {B : Nat} {cs : Array Value} {t : TypeId} (h : Block W B cs t) {i : Nat} {v : Value} (hv : cs[i]? = some v) : W.cell? ⟨B, i, none⟩ = some v := by
  have := cell_of_row W B i cs t (0, 0) h
  rw [this, hv]
theorem Block.frozen {W : World} {B : Nat} {cs : Array Value} {t : TypeId} (h : Block W B cs t) (i : Nat) : W.frozen? ⟨B, i, none⟩ = false := by
  simp [World.frozen?, show W.heap[B]? = _ from h]
theorem Block.new (W : World) (cs : Array Value) (t : TypeId) : Block (W.alloc (.cells cs t)) W.heap.size cs t := World.alloc_heap_new W _
theorem Block.lt {W : World} {B : Nat} {cs : Array Value} {t : TypeId} (h : Block W B cs t) : B < W.heap.size := (Array.getElem?_eq_some_iff.1 h).1
theorem Block.below {W W' : World} {B : Nat} {cs : Array Value} {t : TypeId} (h : Block W B cs t) (hb : Below W.heap.size W W') : Block W' B cs t := (hb.block B h.lt).trans h
theorem Block.alloc {W : World} {B : Nat} {cs : Array Value} {t : TypeId} (h : Block W B cs t) (o : Obj) : Block (W.alloc o) B cs t := h.below ((Below.refl _ W).alloc (Nat.le_refl _) o)
theorem Block.other {W : World} {B B' : Nat} {cs : Array Value} {t : TypeId} (h : Block W B cs t) (hne : B ≠ B') (i : Nat) (u : Value) : Block (W.setCell ⟨B', i, none⟩ u) B cs t :=
  (Below.heap_setCell W ⟨B', i, none⟩ u B hne).trans h

theorem Block.set {W : World} {B : Nat} {cs : Array Value} {t : TypeId} (h : Block W B cs t) (i : Nat) (v : Value) : Block (W.setCell ⟨B, i, none⟩ v) B (cs.setIfInBounds i v) t := by
  unfold Block
  rw [setCell_eq_setRow W B i cs t (0, 0) v h]
  exact setRow_heap W B cs _ t _ h

set_option maxRecDepth 100000 in
set_option maxHeartbeats 8000000 in
theorem folded_any (r : Rd.RR) (w : World) (hn : r.name.length ≤ 100000) (hs : r.data.length ≤ 100000) :
    Calls Try.prog 88 #[rrV r] w fun e w' => e = .returned (rrV (Rd.foldR r)) ∧ Below w.heap.size w w' := by
  obtain ⟨n, t, c, l, d⟩ := r
  simp only at hn hs
  have hFR : Hid (rrV (Rd.foldR ⟨n, t, c, l, d⟩) = .agg #[.string ⟨(Nm.fold n).toArray⟩, .int .i64 t, .int .i64 c, .int .i64 0, .string ⟨(Rd.foldP (Rd.partsD t d) d).toArray⟩]) := Lib.hid rfl
  unfold rrV at hFR ⊢
  refine (callsIn_wide (n := 9)).1 ?_
  refine callsIn_of_wp_marks Try.func88 rfl trivial ?_ rfl
  simp only [Try.ntmps88, List.size_toArray, List.length_cons, List.length_nil, Nat.reduceAdd, Nat.reduceSub, Array.replicate_succ, Array.replicate_zero, List.push_toArray, List.append_toArray, List.nil_append, List.cons_append]
  gi_wp2_with (refine ⟨trivial, ?_⟩; gi_at_call 82; refine (callsIn_wide.2 (names_any t d _)).mono ?_; rintro e w' ⟨rfl, rfl⟩)
  have hk1 : Block (((((w.alloc (.cells #[.string ⟨n.toArray⟩, .int .i64 t, .int .i64 c, .int .i64 l, .string ⟨d.toArray⟩] 45)).alloc (.cells #[.string ⟨#[]⟩, .int .i64 0, .int .i64 0, .int .i64 0, .string ⟨#[]⟩] 45)).alloc (.cells #[.string ⟨d.toArray⟩] 9)).alloc (.cells #[.int .i64 t] 3)).alloc (.cells #[.string ⟨d.toArray⟩] 9)) w.heap.size #[.string ⟨n.toArray⟩, .int .i64 t, .int .i64 c, .int .i64 l, .string ⟨d.toArray⟩] 45 := ((((Block.new w #[.string ⟨n.toArray⟩, .int .i64 t, .int .i64 c, .int .i64 l, .string ⟨d.toArray⟩] 45).alloc _).alloc _).alloc _).alloc _
  have hk2 := (((Block.new (w.alloc (.cells #[.string ⟨n.toArray⟩, .int .i64 t, .int .i64 c, .int .i64 l, .string ⟨d.toArray⟩] 45)) #[.string ⟨#[]⟩, .int .i64 0, .int .i64 0, .int .i64 0, .string ⟨#[]⟩] 45).alloc (.cells #[.string ⟨d.toArray⟩] 9)).alloc (.cells #[.int .i64 t] 3)).alloc (.cells #[.string ⟨d.toArray⟩] 9)
  have hbx := ((Boxed.new ((w.alloc (.cells #[.string ⟨n.toArray⟩, .int .i64 t, .int .i64 c, .int .i64 l, .string ⟨d.toArray⟩] 45)).alloc (.cells #[.string ⟨#[]⟩, .int .i64 0, .int .i64 0, .int .i64 0, .string ⟨#[]⟩] 45)) 9 (.string ⟨d.toArray⟩)).alloc (.cells #[.int .i64 t] 3)).alloc (.cells #[.string ⟨d.toArray⟩] 9)
  have hbt := (Boxed.new (((w.alloc (.cells #[.string ⟨n.toArray⟩, .int .i64 t, .int .i64 c, .int .i64 l, .string ⟨d.toArray⟩] 45)).alloc (.cells #[.string ⟨#[]⟩, .int .i64 0, .int .i64 0, .int .i64 0, .string ⟨#[]⟩] 45)).alloc (.cells #[.string ⟨d.toArray⟩] 9)) 3 (.int .i64 t)).alloc (.cells #[.string ⟨d.toArray⟩] 9)
  have hbd := Boxed.new ((((w.alloc (.cells #[.string ⟨n.toArray⟩, .int .i64 t, .int .i64 c, .int .i64 l, .string ⟨d.toArray⟩] 45)).alloc (.cells #[.string ⟨#[]⟩, .int .i64 0, .int .i64 0, .int .i64 0, .string ⟨#[]⟩] 45)).alloc (.cells #[.string ⟨d.toArray⟩] 9)).alloc (.cells #[.int .i64 t] 3)) 9 (.string ⟨d.toArray⟩)
  have hbw : Below w.heap.size w (((((w.alloc (.cells #[.string ⟨n.toArray⟩, .int .i64 t, .int .i64 c, .int .i64 l, .string ⟨d.toArray⟩] 45)).alloc (.cells #[.string ⟨#[]⟩, .int .i64 0, .int .i64 0, .int .i64 0, .string ⟨#[]⟩] 45)).alloc (.cells #[.string ⟨d.toArray⟩] 9)).alloc (.cells #[.int .i64 t] 3)).alloc (.cells #[.string ⟨d.toArray⟩] 9)) := (((((Below.refl _ w).alloc (Nat.le_refl _) _).alloc (by simp) _).alloc (by simp; omega) _).alloc (by simp; omega) _).alloc (by simp; omega) _
  have hsz : (((((w.alloc (.cells #[.string ⟨n.toArray⟩, .int .i64 t, .int .i64 c, .int .i64 l, .string ⟨d.toArray⟩] 45)).alloc (.cells #[.string ⟨#[]⟩, .int .i64 0, .int .i64 0, .int .i64 0, .string ⟨#[]⟩] 45)).alloc (.cells #[.string ⟨d.toArray⟩] 9)).alloc (.cells #[.int .i64 t] 3)).alloc (.cells #[.string ⟨d.toArray⟩] 9)).heap.size = w.heap.size + 5 := by simp
  simp only [World.size_alloc] at hk2 hbx hbt hbd
  generalize (((((w.alloc (.cells #[.string ⟨n.toArray⟩, .int .i64 t, .int .i64 c, .int .i64 l, .string ⟨d.toArray⟩] 45)).alloc (.cells #[.string ⟨#[]⟩, .int .i64 0, .int .i64 0, .int .i64 0, .string ⟨#[]⟩] 45)).alloc (.cells #[.string ⟨d.toArray⟩] 9)).alloc (.cells #[.int .i64 t] 3)).alloc (.cells #[.string ⟨d.toArray⟩] 9)) = W0 at *
  refine wpIn_rangeFunc_ownB rfl (by omega) (gf := 97) (lb := #[.pointer (some ⟨w.heap.size + 1 + 1 + 1, 0, none⟩), .pointer (some ⟨w.heap.size + 1 + 1 + 1 + 1, 0, none⟩)]) (by rfl) trivial (enters_of Try.func97 (by kernel_rfl) rfl)
    (names_stops _ (by omega) (w.heap.size + 1 + 1 + 1) (w.heap.size + 1 + 1 + 1 + 1) t d hs _ hbt.cell hbd.cell) kb_t kb_b (Below.refl _ _) (fun _ => rfl)
    (fun pre W => (((Boxed W (w.heap.size + 1 + 1) 9 (.string ⟨(Rd.foldP pre d).toArray⟩) ∧ Boxed W (w.heap.size + 1 + 1 + 1 + 1) 9 (.string ⟨d.toArray⟩)) ∧ Block W w.heap.size #[.string ⟨n.toArray⟩, .int .i64 t, .int .i64 c, .int .i64 l, .string ⟨d.toArray⟩] 45) ∧ Block W (w.heap.size + 1) #[.string ⟨#[]⟩, .int .i64 0, .int .i64 0, .int .i64 0, .string ⟨#[]⟩] 45) ∧ Below w.heap.size w W)
    (fun c pre W => False)
    (ownFrom_book (((((Own.from (boxed_own (w.heap.size + 1 + 1) 9 (fun pre : List (Nat × Nat) => .string ⟨(Rd.foldP pre d).toArray⟩)) _).and (Own.from (boxed_own (w.heap.size + 1 + 1 + 1 + 1) 9 (fun _ : List (Nat × Nat) => .string ⟨d.toArray⟩)) _)).and (Own.from (block_own w.heap.size #[.string ⟨n.toArray⟩, .int .i64 t, .int .i64 c, .int .i64 l, .string ⟨d.toArray⟩] 45) _)).and (Own.from (block_own (w.heap.size + 1) #[.string ⟨#[]⟩, .int .i64 0, .int .i64 0, .int .i64 0, .string ⟨#[]⟩] 45) _)).and (ownFrom_below (Nat.le_refl _) (by omega))))
    (fun c s A B row hs hg hr => hs)
    ⟨⟨⟨⟨hbx, hbd⟩, hk1⟩, hk2⟩, hbw⟩
    (fun x => { tmps := #[.agg #[.string ⟨n.toArray⟩, .int .i64 t, .int .i64 c, .int .i64 l, .string ⟨d.toArray⟩], .pointer (some ⟨w.heap.size, 0, none⟩), .pointer (some ⟨w.heap.size + 1, 0, none⟩), .pointer (some ⟨w.heap.size + 1 + 1, 0, none⟩), .int .i64 (x.1 : Int), .int .i64 (x.2 : Int), .pointer (some ⟨w.heap.size, 4, none⟩), .string ⟨d.toArray⟩, .pointer (some ⟨w.heap.size, 1, none⟩), .int .i64 t, .pointer (some ⟨w.heap.size, 4, none⟩), .string ⟨d.toArray⟩, (.func (.func 97) #[] #[.pointer (some ⟨w.heap.size + 1 + 1 + 1, 0, none⟩), .pointer (some ⟨w.heap.size + 1 + 1 + 1 + 1, 0, none⟩)]), .int .i64 (x.1 : Int), .int .i64 (x.2 : Int), undef, undef, undef, undef, undef, undef, undef, undef, undef, undef, undef, undef, undef, undef, undef, undef, undef, undef, undef, undef, undef, undef, undef, undef, undef, undef], defers := [] }) ?assign ?body ?done ?stop
  case assign =>
    intro l x W K hK
    gi_wp2
    exact hK
  case body =>
    have hF : Fence.wide.fn 73 := trivial
    rintro l1 pre x W ⟨⟨⟨⟨hx, hd⟩, hr1⟩, hr2⟩, hbl⟩ hlen hsp
    obtain ⟨hcl, hxb⟩ := Rd.prefix_bound hsp
    have hfs := Rd.foldP_snoc pre x d
    obtain ⟨q, hq⟩ : ∃ q, Rd.foldP pre d = q := ⟨_, rfl⟩
    rw [hq] at hx hcl hfs
    have c3 := Grew.cell hx.cell
    obtain ⟨A, hA⟩ : ∃ A, q.take x.1 = A := ⟨_, rfl⟩
    obtain ⟨X, hX⟩ : ∃ X, (q.drop x.1).take x.2 = X := ⟨_, rfl⟩
    obtain ⟨Z, hZ⟩ : ∃ Z, q.drop (x.1 + x.2) = Z := ⟨_, rfl⟩
    have hXl : X.length ≤ 100000 := by rw [← hX, List.length_take, List.length_drop]; omega
    have hs1 := fun W => run_to (P := Try.prog) Try.underlying9 (l := q) (l' := A) (hi := (x.1 : Int)) (by omega) (by omega) (by rw [← hA]; rfl) W
    have hs2 := fun W => run_cut (P := Try.prog) Try.underlying9 (l := q) (l' := X) (lo := (x.1 : Int)) (hi := (x.1 : Int) + (x.2 : Int)) (by omega) (by omega) (by omega) (by rw [← hX]; congr 1; omega) W
    have hs3 := fun W => run_from (P := Try.prog) Try.underlying9 (l := q) (l' := Z) (lo := (x.1 : Int) + (x.2 : Int)) (by omega) (by omega) (by rw [← hZ]; congr 1) W
    have hw1 : IntKind.i64.wrap ((x.1 : Int) + (x.2 : Int)) = (x.1 : Int) + (x.2 : Int) := IntWalk.i64_in _ (by omega)
    obtain ⟨Y, hY⟩ : ∃ Y, Nm.fold X = Y := ⟨_, rfl⟩
    have hfold := fun W => fold_any X W hXl
    rw [hY] at hfold
    have hfin : Rd.foldP (pre ++ [x]) d = A ++ Y ++ Z := by rw [hfs, ← hA, ← hY, ← hX, ← hZ]; rfl
    obtain ⟨V, hV⟩ : ∃ V, A ++ Y ++ Z = V := ⟨_, rfl⟩
    obtain ⟨U, hU⟩ : ∃ U, A ++ Y = U := ⟨_, rfl⟩
    have hVl : V.length ≤ 100000 := by
      rw [← hV, ← hfin, hfs, Rd.fold1_len (by rw [hcl]; exact hxb)]; omega
    have hUl : U.length ≤ 100000 := by
      have : U.length ≤ V.length := by rw [← hV, ← hU]; simp
      omega
    have hAl : A.length ≤ 100000 := by rw [← hA, List.length_take]; omega
    have hYl : Y.length ≤ 100000 := by rw [← hY, Rd.fold_len]; exact hXl
    have hZl : Z.length ≤ 100000 := by rw [← hZ, List.length_drop]; omega
    have ha1 := fun W => run_string_add_lists (P := Try.prog) W A Y (by omega) (by omega)
    have ha2 := fun W => run_string_add_lists (P := Try.prog) W (A ++ Y) Z (by rw [hU]; omega) (by omega)
    rw [hU] at ha1 ha2 hV
    rw [hV] at ha2
    have HFIN : Hid (Rd.foldP (pre ++ [x]) d = V) := Lib.hid (by rw [hfin, hU, hV])
    have HFOLD := Lib.hid hfold
    clear hsp hfs hq hA hX hZ hY hfin hV hU hfold hcl
    gi_wp2
    refine wpIn_region_tailG (by simp) rfl rfl (by kernel_rfl) (by kernel_rfl) (by kernel_rfl) (by kernel_rfl) (by kernel_rfl) ?_
    dsimp only [swapL, List.getLast]
    repeat (gi_big_quiet_step ((gi_at_call 73; exact Grew.calls _ (.string ⟨Y.toArray⟩) (CallsIn.inRound l1 (callsIn_wide.2 (HFOLD.out _))))))
    refine wpQuietIn_idle rfl rfl ?_
    rintro W1 ⟨iG, hi⟩
    have hdw : Below W.heap.size W W1 := by rw [hi]; exact iG.below
    clear hi
    have hx' := boxed_below hx hdw
    have c3' := hx'.cell
    have f3' := hx'.frozen
    have hd' := boxed_below hd hdw
    have hkb : KB (w.heap.size + 1 + 1 + 1 + 1) W (W1.setCell ⟨w.heap.size + 1 + 1, 0, none⟩ (.string ⟨V.toArray⟩)) := fun u hu => by
      rw [hd.cell] at hu
      cases hu
      exact (hd'.other (by omega) _).cell
    have hko := ((ko_below hdw).trans (KeepsOthers.setCell W1 ⟨w.heap.size + 1 + 1, 0, none⟩ (.string ⟨V.toArray⟩))).from W0.heap.size
    gi_wp2
    exact ⟨keepsFrom_book hko, hkb, ⟨⟨⟨by rw [HFIN.out]; exact hx'.set _, hd'.other (by omega) _⟩, (hr1.below hdw).other (by omega) _ _⟩, (hr2.below hdw).other (by omega) _ _⟩, (below_trans hbl hdw).setCell (p := ⟨w.heap.size + 1 + 1, 0, none⟩) (by show w.heap.size ≤ w.heap.size + 1 + 1; omega) _⟩
  case done =>
    have hF : Fence.wide.fn 73 := trivial
    rintro D ys W hD hS ⟨⟨⟨⟨hx, hd⟩, hr1⟩, hr2⟩, hbl⟩ hK
    rw [hS] at hx
    obtain ⟨q, hq⟩ : ∃ q, Rd.foldP (Rd.partsD t d) d = q := ⟨_, rfl⟩
    rw [hq] at hx hFR
    obtain ⟨m, hm⟩ : ∃ m, Nm.fold n = m := ⟨_, rfl⟩
    have hfold := fun W => fold_any n W hn
    rw [hm] at hfold hFR
    have HFOLD := Lib.hid hfold
    have c0 := Grew.cell (hr1.cell (i := 0) rfl)
    have c1 := Grew.cell (hr1.cell (i := 1) rfl)
    have c2 := Grew.cell (hr1.cell (i := 2) rfl)
    have c3 := Grew.cell hx.cell
    clear hS hq hm hfold
    gi_wp2
    refine wpIn_region_tailG (by simp) rfl rfl (by kernel_rfl) (by kernel_rfl) (by kernel_rfl) (by kernel_rfl) (by kernel_rfl) ?_
    dsimp only [swapL, List.getLast]
    repeat (gi_big_quiet_step ((gi_at_call 73; exact Grew.calls _ (.string ⟨m.toArray⟩) (callsIn_wide.2 (HFOLD.out _)))))
    refine wpQuietIn_idle rfl rfl ?_
    rintro W1 ⟨iG, hi⟩
    have hdw : Below W.heap.size W W1 := by rw [hi]; exact iG.below
    clear hi
    have hr2' := hr2.below hdw
    have d0 := hr2'.cell (i := 0) rfl
    have d1 := hr2'.cell (i := 1) rfl
    have d2 := hr2'.cell (i := 2) rfl
    have d3 := hr2'.cell (i := 3) rfl
    have d4 := hr2'.cell (i := 4) rfl
    have f2 := hr2'.frozen
    have hD1 : W1.heap[D]? = some (.deferred (some [])) := (hdw.block D (Array.getElem?_eq_some_iff.1 hK).1).trans hK
    have hb1 := below_trans hbl hdw
    gi_wp2
    have hblk : Block (((((W1.setCell ⟨w.heap.size + 1, 0, none⟩ (.string ⟨m.toArray⟩)).setCell ⟨w.heap.size + 1, 1, none⟩ (.int .i64 t)).setCell ⟨w.heap.size + 1, 2, none⟩ (.int .i64 c)).setCell ⟨w.heap.size + 1, 3, none⟩ (.int .i64 0)).setCell ⟨w.heap.size + 1, 4, none⟩ (.string ⟨q.toArray⟩)) (w.heap.size + 1) #[.string ⟨m.toArray⟩, .int .i64 t, .int .i64 c, .int .i64 0, .string ⟨q.toArray⟩] 45 := ((((hr2'.set 0 _).set 1 _).set 2 _).set 3 _).set 4 _
    have hbel := below5 hb1 (g := w.heap.size + 1) (by omega) (.string ⟨m.toArray⟩) (.int .i64 t) (.int .i64 c) (.int .i64 0) (.string ⟨q.toArray⟩)
    have hD2 : (((((W1.setCell ⟨w.heap.size + 1, 0, none⟩ (.string ⟨m.toArray⟩)).setCell ⟨w.heap.size + 1, 1, none⟩ (.int .i64 t)).setCell ⟨w.heap.size + 1, 2, none⟩ (.int .i64 c)).setCell ⟨w.heap.size + 1, 3, none⟩ (.int .i64 0)).setCell ⟨w.heap.size + 1, 4, none⟩ (.string ⟨q.toArray⟩)).heap[D]? = some (.deferred (some [])) := by
      have hne : D ≠ w.heap.size + 1 := by omega
      rw [Below.heap_setCell _ _ _ _ hne, Below.heap_setCell _ _ _ _ hne, Below.heap_setCell _ _ _ _ hne, Below.heap_setCell _ _ _ _ hne, Below.heap_setCell _ _ _ _ hne]
      exact hD1
    generalize (((((W1.setCell ⟨w.heap.size + 1, 0, none⟩ (.string ⟨m.toArray⟩)).setCell ⟨w.heap.size + 1, 1, none⟩ (.int .i64 t)).setCell ⟨w.heap.size + 1, 2, none⟩ (.int .i64 c)).setCell ⟨w.heap.size + 1, 3, none⟩ (.int .i64 0)).setCell ⟨w.heap.size + 1, 4, none⟩ (.string ⟨q.toArray⟩)) = W2 at *
    refine ⟨by simp, .inl ⟨_, _, rfl, run_takeDeferred hD2, ?_⟩⟩
    have hblk3 := block_own (w.heap.size + 1) #[.string ⟨m.toArray⟩, .int .i64 t, .int .i64 c, .int .i64 0, .string ⟨q.toArray⟩] 45 () W2 _ (some D) hblk (grownBy_putObj' W2 D (.deferred none)) (fun r e => by cases e; exact ⟨_, hD2, rfl⟩)
    have g0 := hblk3.cell (i := 0) rfl
    have g1 := hblk3.cell (i := 1) rfl
    have g2 := hblk3.cell (i := 2) rfl
    have g3 := hblk3.cell (i := 3) rfl
    have g4 := hblk3.cell (i := 4) rfl
    refine ⟨.agg #[.string ⟨m.toArray⟩, .int .i64 t, .int .i64 c, .int .i64 0, .string ⟨q.toArray⟩], ?_, ?_⟩
    · simp [results, Try.results88, go_sem, g0, g1, g2, g3, g4]
    · exact ⟨by rw [← hFR.out], below_putD hbel (by omega) hD2 rfl rfl _⟩
  case stop =>
    rintro D c pre W hD hSp h hK
    exact h.elim
end Go.Proofs.Ytfmghbmbahembaa
