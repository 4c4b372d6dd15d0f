/- 4 texts put together: Anewc, Chm, Anewh, Ahdrop. -/
import Derived.Laws.MakeOwn
import Derived.Laws.OwnMore
import Derived.Test.YtagjjpmhacknpaaDoorJB2
/- newChains, newHandles. -/
set_option maxRecDepth 100000
namespace Go.Proofs.YtagjjpmhacknpaaDoor
open Go.RowKit Go.Shelf
namespace Ar
def ring (k : Nat) : List Node := (List.range 17).map fun i => if i < k then ⟨0, i, i⟩ else ⟨0, 0, 0⟩
def ring0 : List Node := ring 17
theorem ring_len (k : Nat) : (ring k).length = 17 := by simp [ring]
theorem ring_step : ∀ k : Fin 17, link (ring k.1) k.1 k.1 = ring (k.1 + 1) := by decide +kernel
theorem ring_zero : ring 0 = List.replicate 17 ⟨0, 0, 0⟩ := by decide +kernel
end Ar
theorem make_ring (w : World) : (Instr.makeSlice 61 (.int .i64 17) (.int .i64 17)).run Tryd.prog w = .ok (.slice (some ⟨w.heap.size, 0, none⟩) 17 17) (w.alloc (.cells (encNs (Ar.ring 0)).toArray 93)) := by
  obtain ⟨i, hi, hz0, hz1, hz2⟩ := info_parts infoN
  have h := run_make (P := Tryd.prog) w 61 93 i _ Tryd.underlying61 hi hz0 .i64 .i64 17 17 (by omega) (by omega) (by rw [hz2]; decide) (by decide)
  rw [h, hz1]
  have e : madeCells (Value.agg #[.int .i64 0, .int .i64 0, .int .i64 0]).cells ((17 : Int).toNat * 3) = (encNs (Ar.ring 0)).toArray := by kernel_rfl
  rw [e]
  rfl
def RingRet (w : World) (e : Ending) (w' : World) : Prop := ∃ N, e = .returned (.agg #[.slice (some ⟨N, 0, none⟩) 17 17, .int .i64 0]) ∧ Blk w' N (encNs Ar.ring0) 93 ∧ w.heap.size ≤ N ∧ Below w.heap.size w w'
set_option maxHeartbeats 4000000 in
theorem newChains_any (w : World) : Calls Tryd.prog 24 #[.int .i64 17] w (RingRet w) := by
  go_enter Tryd.func24, Tryd.ntmps24
  have hmk := make_ring
  have h0 : Hid (ChE (w.heap.size + 1 + 1) 0 63 [.slice (some ⟨w.heap.size + 1, 0, none⟩) 17 17, .int .i64 0] (w.heap.size + 1) 17 [] (Ar.ring 0) 0 (((w.alloc (.cells #[.slice none 0 0, .int .i64 0] 63)).alloc (.cells (encNs (Ar.ring 0)).toArray 93)).alloc (.cells #[.slice (some ⟨w.heap.size + 1, 0, none⟩) 17 17, .int .i64 0] 63))) := by
    have b1 := Blk.new (w.alloc (.cells #[.slice none 0 0, .int .i64 0] 63)) (encNs (Ar.ring 0)) 93
    have b2 := Blk.new ((w.alloc (.cells #[.slice none 0 0, .int .i64 0] 63)).alloc (.cells (encNs (Ar.ring 0)).toArray 93)) [.slice (some ⟨w.heap.size + 1, 0, none⟩) 17 17, .int .i64 0] 63
    rw [World.size_alloc] at b1
    rw [World.size_alloc, World.size_alloc] at b2
    exact Lib.hid ⟨b2, rfl, rfl, by rw [List.append_nil]; exact b1.alloc _, by simp [Ar.ring_len], by omega, by simp [Ar.ring_len], by unfold maxLen; omega⟩
  have h1 : Hid (Blk (((w.alloc (.cells #[.slice none 0 0, .int .i64 0] 63)).alloc (.cells (encNs (Ar.ring 0)).toArray 93)).alloc (.cells #[.slice (some ⟨w.heap.size + 1, 0, none⟩) 17 17, .int .i64 0] 63)) w.heap.size [.slice none 0 0, .int .i64 0] 63) := Lib.hid (((Blk.new w [.slice none 0 0, .int .i64 0] 63).alloc _).alloc _)
  have h2 : Hid (Below w.heap.size w (((w.alloc (.cells #[.slice none 0 0, .int .i64 0] 63)).alloc (.cells (encNs (Ar.ring 0)).toArray 93)).alloc (.cells #[.slice (some ⟨w.heap.size + 1, 0, none⟩) 17 17, .int .i64 0] 63))) := Lib.hid ((((Below.refl _ _).alloc (Nat.le_refl _) _).alloc (by simp) _).alloc (by simp; omega) _)
  go_wp2
  generalize hC : w.heap.size + 1 + 1 = C at *
  generalize hN : w.heap.size + 1 = N at *
  have hNw : w.heap.size < N := by omega
  clear hC hN hmk
  go_loopw [11] (fun i wr => ∃ k : Nat, k ≤ 17 ∧ i = .int .i64 (k : Int) ∧ Hid (ChE C 0 63 [.slice (some ⟨N, 0, none⟩) 17 17, .int .i64 0] N 17 [] (Ar.ring k) 0 wr) ∧ Hid (Blk wr w.heap.size [.slice none 0 0, .int .i64 0] 63) ∧ Hid (Below w.heap.size w wr)) (fun i _ => 17 - (intOf i).toNat)
  case atStart => exact ⟨0, by omega, rfl, h0, h1, h2⟩
  case round =>
    obtain ⟨k, hk, rfl, hc, hb, hw⟩ := hrel
    clear h0 h1 h2
    by_cases hlt : k < 17
    · go_wp2_with (go_at_call 44; (refine (link_any C 0 63 _ N 17 [] (Ar.ring k) 0 k k _ hc.out (by rw [Ar.ring_len]; exact hlt) (by rw [Ar.ring_len]; exact hlt)).mono ?_); rintro e w1 ⟨rfl, ht, hc1⟩; have hst := Lib.hid (Ar.ring_step ⟨k, hlt⟩); have hc2 : Hid (ChE C 0 63 [.slice (some ⟨N, 0, none⟩) 17 17, .int .i64 0] N 17 [] (Ar.ring (k + 1)) 0 w1) := Lib.hid (by have := hst.out; simp only at this; rw [← this]; exact hc1); have hb2 := Lib.hid (hb.out.trn ht (fun e => by omega)); have hw2 := Lib.hid (hw.out.trans (ht.below (n := w.heap.size) (fun j e => by omega) hw.out.size)); clear ht hc1 hst)
      go_roundw
      case rel => exact ⟨k + 1, by omega, by go_num, hc2, hb2, hw2⟩
      case measure => simp [intOf]; omega
    · obtain rfl : k = 17 := by omega
      have c0 := hc.out.box0.1
      have c1 := hc.out.box0.2
      have d0 := hb.out.cell (i := 0) rfl
      have d1 := hb.out.cell (i := 1) rfl
      have df := fun i => hb.out.frozen i
      unfold encI at c1
      rw [Ar.ring_len] at c0
      have hbb := (hb.out.set 0 (.slice (some ⟨N, 0, none⟩) 17 17)).set 1 (.int .i64 0)
      have y0 := hbb.cell (i := 0) rfl
      have y1 := hbb.cell (i := 1) rfl
      have hnn := (hc.out.nd.other (B' := w.heap.size) (by omega) 0 (.slice (some ⟨N, 0, none⟩) 17 17)).other (B' := w.heap.size) (by omega) 1 (.int .i64 0)
      rw [List.append_nil] at hnn
      have hww := (hw.out.setCell (p := ⟨w.heap.size, 0, none⟩) (Nat.le_refl _) (.slice (some ⟨N, 0, none⟩) 17 17)).setCell (p := ⟨w.heap.size, 1, none⟩) (Nat.le_refl _) (.int .i64 0)
      have R := Lib.hid (And.intro hnn hww)
      clear hnn hww hbb
      go_wp2
      generalize World.setCell (World.setCell wr _ _) _ _ = W at *
      exact bodyPost_ret (v := .agg #[.slice (some ⟨N, 0, none⟩) 17 17, .int .i64 0]) (by simp [results, Tryd.results24, go_sem, y0, y1]) rfl ⟨N, rfl, R.out.1, by omega, R.out.2⟩
end Go.Proofs.YtagjjpmhacknpaaDoor

/- The lists of free pieces, as a whole: what push and drop leave. -/
set_option maxRecDepth 100000
namespace Go.Proofs.YtagjjpmhacknpaaDoor
namespace Ar
/-- The class of a node: of the rings' own nodes their number, of others what E says. -/
def lab (E : Nat → Option (Nat × Nat)) (i : Nat) : Option Nat := if i < 17 then some i else (E i).map Prod.fst
/-- The nodes that are in no list, one behind the other. -/
def SpL (nd : List Node) : Nat → List Nat → Prop
  | s, [] => s = 0
  | s, x :: r => s = x ∧ SpL nd (nodeAt nd x).n r
structure Ch (nd : List Node) (spare : Nat) (E : Nat → Option (Nat × Nat)) (sp : List Nat) : Prop where
  len : 17 ≤ nd.length
  low : ∀ i x, E i = some x → 17 ≤ i ∧ i < nd.length ∧ x.1 < 17
  nx : ∀ i c, lab E i = some c → lab E (nodeAt nd i).n = some c ∧ (nodeAt nd (nodeAt nd i).n).l = i
  pv : ∀ i c, lab E i = some c → lab E (nodeAt nd i).l = some c ∧ (nodeAt nd (nodeAt nd i).l).n = i
  val : ∀ i c v, E i = some (c, v) → (nodeAt nd i).v = v
  spl : SpL nd spare sp
  nodup : sp.Nodup
  spn : ∀ i ∈ sp, 17 ≤ i ∧ i < nd.length ∧ E i = none
  all : ∀ i, 17 ≤ i → i < nd.length → E i ≠ none ∨ i ∈ sp
theorem nodeAt_set (nd : List Node) (i j : Nat) (x : Node) (h : i < nd.length) : nodeAt (nd.set i x) j = if j = i then x else nodeAt nd j := by
  unfold nodeAt
  by_cases e : j = i
  · subst e; simp [h]
  · simp [List.getD, List.getElem?_set_ne (Ne.symm e), e]
theorem nodeAt_link (nd : List Node) (a b j : Nat) (ha : a < nd.length) (hb : b < nd.length) : nodeAt (link nd a b) j = ⟨(nodeAt nd j).v, if j = b then a else (nodeAt nd j).l, if j = a then b else (nodeAt nd j).n⟩ := by
  unfold link setL setN
  rw [nodeAt_set _ _ _ _ (by simpa using hb), nodeAt_set _ _ _ _ ha, nodeAt_set _ _ _ _ ha]
  by_cases h1 : j = b <;> by_cases h2 : j = a <;> by_cases h3 : b = a <;> simp_all
theorem lab_lt {nd : List Node} {spare : Nat} {E : Nat → Option (Nat × Nat)} {sp : List Nat} (h : Ch nd spare E sp) {i c : Nat} (hi : lab E i = some c) : i < nd.length ∧ c < 17 := by
  unfold lab at hi
  split at hi
  · rename_i h1
    have := h.len
    simp at hi
    omega
  · obtain ⟨x, hx, rfl⟩ := Option.map_eq_some_iff.1 hi
    have := h.low i x hx
    omega
/-- The spare nodes' order does not hang on nodes beside them. -/
theorem spL_congr {nd nd' : List Node} : ∀ {sp : List Nat} {s : Nat}, (∀ i ∈ sp, (nodeAt nd' i).n = (nodeAt nd i).n) → SpL nd s sp → SpL nd' s sp
  | [], _, _, h => h
  | x :: r, s, he, h => ⟨h.1, by rw [he x (List.mem_cons_self ..)]; exact spL_congr (fun i hi => he i (List.mem_cons_of_mem _ hi)) h.2⟩
def off (E : Nat → Option (Nat × Nat)) (i : Nat) : Nat → Option (Nat × Nat) := fun j => if j = i then none else E j
def on (E : Nat → Option (Nat × Nat)) (i : Nat) (x : Nat × Nat) : Nat → Option (Nat × Nat) := fun j => if j = i then some x else E j
theorem off_same (E : Nat → Option (Nat × Nat)) (i : Nat) : off E i i = none := if_pos rfl
theorem off_ne (E : Nat → Option (Nat × Nat)) {i j : Nat} (h : j ≠ i) : off E i j = E j := if_neg h
theorem on_same (E : Nat → Option (Nat × Nat)) (i : Nat) (x : Nat × Nat) : on E i x i = some x := if_pos rfl
theorem on_ne (E : Nat → Option (Nat × Nat)) {i j : Nat} (x : Nat × Nat) (h : j ≠ i) : on E i x j = E j := if_neg h
/-- A node is taken out. -/
theorem Ch.drop {nd : List Node} {spare : Nat} {E : Nat → Option (Nat × Nat)} {sp : List Nat} (h : Ch nd spare E sp) {i : Nat} {x : Nat × Nat} (hx : E i = some x) :
    Ch (dropN nd i spare) i (off E i) (i :: sp) := by
  obtain ⟨hi17, hil, hc⟩ := h.low i x hx
  have hlab : lab E i = some x.1 := by unfold lab; rw [if_neg (by omega), hx]; rfl
  obtain ⟨n1, n2⟩ := h.nx i _ hlab
  obtain ⟨p1, p2⟩ := h.pv i _ hlab
  have hnl := (lab_lt h n1).1
  have hpl := (lab_lt h p1).1
  have hE : ∀ j c, lab (off E i) j = some c → j ≠ i ∧ lab E j = some c := fun j c hj => by
    unfold lab at hj ⊢
    by_cases e : j = i
    · rw [e, if_neg (by omega), off_same] at hj; cases hj
    · rw [off_ne E e] at hj; exact ⟨e, hj⟩
  have hE2 : ∀ j c, j ≠ i → lab E j = some c → lab (off E i) j = some c := fun j c e hj => by
    unfold lab at hj ⊢
    rw [off_ne E e]; exact hj
  have hat : ∀ j, j ≠ i → nodeAt (dropN nd i spare) j = ⟨(nodeAt nd j).v, if j = (nodeAt nd i).n then (nodeAt nd i).l else (nodeAt nd j).l, if j = (nodeAt nd i).l then (nodeAt nd i).n else (nodeAt nd j).n⟩ := fun j e => by
    unfold dropN
    rw [nodeAt_set _ _ _ _ (by rw [link_len]; exact hil), if_neg e, nodeAt_link _ _ _ _ hpl hnl]
  have hai : nodeAt (dropN nd i spare) i = ⟨0, 0, spare⟩ := by
    unfold dropN
    rw [nodeAt_set _ _ _ _ (by rw [link_len]; exact hil), if_pos rfl]
  refine ⟨by rw [dropN_len]; exact h.len, ?_, ?_, ?_, ?_, ⟨rfl, ?_⟩, ?_, ?_, ?_⟩
  · intro j y hj
    rw [dropN_len]
    by_cases e : j = i
    · rw [e, off_same] at hj; cases hj
    · rw [off_ne E e] at hj; exact h.low j y hj
  · intro j c hj
    obtain ⟨e, hj⟩ := hE j c hj
    obtain ⟨a1, a2⟩ := h.nx j c hj
    rw [hat j e]
    simp only
    by_cases e2 : j = (nodeAt nd i).l
    · rw [if_pos e2]
      have hn1 : (nodeAt nd i).n ≠ i := fun e3 => by
        have : (nodeAt nd i).l = i := by rw [e3] at n2; exact n2
        exact e (e2.trans this)
      have hc2 : x.1 = c := by rw [← e2] at p1; exact Option.some.inj (p1.symm.trans hj)
      rw [hat _ hn1]
      simp only [if_true]
      exact ⟨hE2 _ _ hn1 (by rw [← hc2]; exact n1), e2.symm⟩
    · rw [if_neg e2]
      have hn1 : (nodeAt nd j).n ≠ i := fun e3 => e2 (by rw [e3] at a2; exact a2.symm)
      rw [hat _ hn1]
      simp only
      refine ⟨hE2 _ _ hn1 a1, ?_⟩
      rw [if_neg (fun e3 => e (by rw [e3] at a2; exact (a2.symm.trans n2)))]
      exact a2
  · intro j c hj
    obtain ⟨e, hj⟩ := hE j c hj
    obtain ⟨a1, a2⟩ := h.pv j c hj
    rw [hat j e]
    simp only
    by_cases e2 : j = (nodeAt nd i).n
    · rw [if_pos e2]
      have hn1 : (nodeAt nd i).l ≠ i := fun e3 => by
        have : (nodeAt nd i).n = i := by rw [e3] at p2; exact p2
        exact e (e2.trans this)
      have hc2 : x.1 = c := by rw [← e2] at n1; exact Option.some.inj (n1.symm.trans hj)
      rw [hat _ hn1]
      simp only [if_true]
      exact ⟨hE2 _ _ hn1 (by rw [← hc2]; exact p1), e2.symm⟩
    · rw [if_neg e2]
      have hn1 : (nodeAt nd j).l ≠ i := fun e3 => e2 (by rw [e3] at a2; exact a2.symm)
      rw [hat _ hn1]
      simp only
      refine ⟨hE2 _ _ hn1 a1, ?_⟩
      rw [if_neg (fun e3 => e (by rw [e3] at a2; exact (a2.symm.trans p2)))]
      exact a2
  · intro j c v hj
    by_cases e : j = i
    · rw [e, off_same] at hj; cases hj
    · rw [off_ne E e] at hj
      rw [hat j e]
      exact h.val j c v hj
  · rw [hai]
    refine spL_congr (fun j hj => ?_) h.spl
    obtain ⟨s1, s2, s3⟩ := h.spn j hj
    have e : j ≠ i := fun e => by subst e; rw [s3] at hx; cases hx
    rw [hat j e]
    simp only
    rw [if_neg (fun e3 => by
      have : lab E j = some x.1 := by rw [e3]; exact p1
      unfold lab at this
      rw [if_neg (by omega), s3] at this
      cases this)]
  · exact List.nodup_cons.2 ⟨fun hm => (by have := (h.spn i hm).2.2; rw [this] at hx; cases hx), h.nodup⟩
  · intro j hj
    rw [dropN_len]
    rcases List.mem_cons.1 hj with rfl | hj
    · exact ⟨hi17, hil, off_same _ _⟩
    · obtain ⟨s1, s2, s3⟩ := h.spn j hj
      refine ⟨s1, s2, ?_⟩
      by_cases e : j = i
      · rw [e, off_same]
      · rw [off_ne E e]; exact s3
  · intro j h1 h2
    rw [dropN_len] at h2
    by_cases e : j = i
    · right; rw [e]; exact List.mem_cons_self ..
    · rcases h.all j h1 h2 with h3 | h3
      · left; rw [off_ne E e]; exact h3
      · right; exact List.mem_cons_of_mem _ h3
theorem nodeAt_snoc (nd : List Node) (j : Nat) : nodeAt (nd ++ [⟨0, 0, 0⟩]) j = nodeAt nd j := by
  unfold nodeAt
  simp only [List.getD]
  by_cases h : j < nd.length
  · rw [List.getElem?_append_left h]
  · rw [List.getElem?_append_right (by omega), List.getElem?_eq_none (l := nd) (by omega)]
    by_cases h2 : j - nd.length = 0
    · rw [h2]; rfl
    · rw [List.getElem?_eq_none (by simp; omega)]
theorem Ch.spare0 {nd : List Node} {spare : Nat} {E : Nat → Option (Nat × Nat)} {sp : List Nat} (h : Ch nd spare E sp) : (spare = 0 ∧ sp = []) ∨ (∃ r, sp = spare :: r ∧ 17 ≤ spare ∧ spare < nd.length ∧ E spare = none ∧ SpL nd (nodeAt nd spare).n r) := by
  cases hs : sp with
  | nil => left; have := h.spl; rw [hs] at this; exact ⟨this, rfl⟩
  | cons x r =>
    right
    have h1 := h.spl
    rw [hs] at h1
    obtain ⟨rfl, h2⟩ := h1
    have h3 := h.spn spare (by rw [hs]; exact List.mem_cons_self ..)
    exact ⟨r, rfl, h3.1, h3.2.1, h3.2.2, h2⟩
theorem Ch.spare_lt {nd : List Node} {spare : Nat} {E : Nat → Option (Nat × Nat)} {sp : List Nat} (h : Ch nd spare E sp) : spare < nd.length := by
  rcases h.spare0 with ⟨h1, _⟩ | ⟨r, _, _, h2, _⟩
  · have := h.len; omega
  · exact h2
/-- The node that push takes. -/
theorem Ch.fresh {nd : List Node} {spare : Nat} {E : Nat → Option (Nat × Nat)} {sp : List Nat} (h : Ch nd spare E sp) (c v : Nat) :
    17 ≤ (push nd spare c v).k ∧ E (push nd spare c v).k = none ∧ nd.length ≤ (push nd spare c v).nd.length ∧ (push nd spare c v).nd.length ≤ nd.length + 1 ∧ (push nd spare c v).k < (push nd spare c v).nd.length := by
  have hl := h.len
  rcases h.spare0 with ⟨h1, _⟩ | ⟨r, _, h1, h2, h3, _⟩
  · subst h1
    simp only [push, if_true, link_len, setV_len, List.length_append, List.length_singleton]
    refine ⟨hl, ?_, by omega, by omega, by omega⟩
    cases he : E nd.length with
    | none => rfl
    | some x => have := (h.low _ x he).2.1; omega
  · simp only [push, if_neg (show ¬ spare = 0 by omega), link_len, setV_len]
    exact ⟨h1, h3, by omega, by omega, h2⟩
theorem Ch.push_at {nd : List Node} {spare : Nat} {E : Nat → Option (Nat × Nat)} {sp : List Nat} (h : Ch nd spare E sp) {c : Nat} (v : Nat) (hc : c < 17) (j : Nat) :
    nodeAt (push nd spare c v).nd j = ⟨if j = (push nd spare c v).k then v else (nodeAt nd j).v, if j = (push nd spare c v).k then c else if j = (nodeAt nd c).n then (push nd spare c v).k else (nodeAt nd j).l, if j = c then (push nd spare c v).k else if j = (push nd spare c v).k then (nodeAt nd c).n else (nodeAt nd j).n⟩ := by
  have hl := h.len
  obtain ⟨f1, f2, f3, f4, f5⟩ := h.fresh c v
  have hlab : lab E c = some c := by unfold lab; rw [if_pos hc]
  have hm := h.nx c c hlab
  have hmk : (nodeAt nd c).n ≠ (push nd spare c v).k := fun e => by
    have := hm.1
    rw [e] at this
    unfold lab at this
    rw [if_neg (by omega), f2] at this
    cases this
  have hml := (lab_lt h hm.1).1
  have hck : c ≠ (push nd spare c v).k := by omega
  have key : ∀ (nd1 : List Node) (k : Nat), (∀ j, nodeAt nd1 j = nodeAt nd j) → k < nd1.length → nd.length ≤ nd1.length → (nodeAt nd c).n ≠ k → c ≠ k → nodeAt (link (link (setV nd1 k v) k (nodeAt (setV nd1 k v) c).n) c k) j = ⟨if j = k then v else (nodeAt nd j).v, if j = k then c else if j = (nodeAt nd c).n then k else (nodeAt nd j).l, if j = c then k else if j = k then (nodeAt nd c).n else (nodeAt nd j).n⟩ := fun nd1 k h1 h2 h3 h4 h5 => by
    have hv : ∀ j, nodeAt (setV nd1 k v) j = ⟨if j = k then v else (nodeAt nd j).v, (nodeAt nd j).l, (nodeAt nd j).n⟩ := fun j => by
      unfold setV
      rw [nodeAt_set _ _ _ _ h2, h1]
      by_cases e : j = k
      · subst e; simp
      · simp [e, h1]
    rw [nodeAt_link _ _ _ _ (by rw [link_len, setV_len]; omega) (by rw [link_len, setV_len]; exact h2), hv c, nodeAt_link _ _ _ _ (by rw [setV_len]; exact h2) (by rw [setV_len]; show (nodeAt nd c).n < _; omega), hv j]
  rcases h.spare0 with ⟨h1, _⟩ | ⟨r, _, h1, h2, h3, _⟩
  · subst h1
    simp only [push, if_true] at f1 f5 hmk hck ⊢
    exact key _ _ (nodeAt_snoc nd) (by simp) (by simp) hmk hck
  · simp only [push, if_neg (show ¬ spare = 0 by omega)] at f1 f5 hmk hck ⊢
    exact key _ _ (fun _ => rfl) h2 (Nat.le_refl _) hmk hck
/-- A value is put. -/
theorem Ch.push {nd : List Node} {spare : Nat} {E : Nat → Option (Nat × Nat)} {sp : List Nat} (h : Ch nd spare E sp) {c : Nat} (v : Nat) (hc : c < 17) :
    ∃ sp', Ch (push nd spare c v).nd (push nd spare c v).spare (on E (push nd spare c v).k (c, v)) sp' := by
  have hl := h.len
  obtain ⟨f1, f2, f3, f4, f5⟩ := h.fresh c v
  have hat := h.push_at v hc
  have hlab : lab E c = some c := by unfold lab; rw [if_pos hc]
  have hm := h.nx c c hlab
  have hm2 := h.pv c c hlab
  have hnone : ∀ j x, lab E j = some x → j ≠ (Ar.push nd spare c v).k := fun j x hj e => by
    rw [e] at hj
    unfold lab at hj
    rw [if_neg (by omega), f2] at hj
    cases hj
  have hmk := hnone _ _ hm.1
  have hck := hnone _ _ hlab
  -- what the spare nodes are
  have hsp : ∃ sp', SpL nd (Ar.push nd spare c v).spare sp' ∧ sp'.Nodup ∧ (∀ i ∈ sp', i ∈ sp ∧ i ≠ (Ar.push nd spare c v).k) ∧ (∀ i, 17 ≤ i → i < (Ar.push nd spare c v).nd.length → i = (Ar.push nd spare c v).k ∨ i < nd.length) ∧ (∀ i ∈ sp, i = (Ar.push nd spare c v).k ∨ i ∈ sp') := by
    rcases h.spare0 with ⟨h1, h2⟩ | ⟨r, h0, h1, h2, h3, h4⟩
    · subst h1
      subst h2
      refine ⟨[], by simp [Ar.push, SpL], List.nodup_nil, by simp, fun i hi hlt => ?_, by simp⟩
      simp only [Ar.push, if_true, link_len, setV_len, List.length_append, List.length_singleton] at hlt ⊢
      omega
    · have hn := h.nodup
      rw [h0] at hn
      obtain ⟨hn1, hn2⟩ := List.nodup_cons.1 hn
      simp only [Ar.push, if_neg (show ¬ spare = 0 by omega), link_len, setV_len]
      refine ⟨r, h4, hn2, fun i hi => ⟨by rw [h0]; exact List.mem_cons_of_mem _ hi, fun e => hn1 (e ▸ hi)⟩, fun i _ hlt => .inr hlt, fun i hi => ?_⟩
      rw [h0] at hi
      exact (List.mem_cons.1 hi)
  obtain ⟨sp', s1, s2, s3, s4, s5⟩ := hsp
  generalize Ar.push nd spare c v = R at *
  have hL : ∀ j, lab (on E R.k (c, v)) j = if j = R.k then some c else lab E j := fun j => by
    unfold lab
    by_cases e : j = R.k
    · rw [if_pos e, e, if_neg (by omega), on_same]; rfl
    · rw [if_neg e, on_ne E _ e]
  refine ⟨sp', ⟨by omega, ?_, ?_, ?_, ?_, ?_, s2, ?_, ?_⟩⟩
  · intro i x hi
    by_cases e : i = R.k
    · rw [e, on_same] at hi
      cases hi
      exact ⟨by omega, by omega, hc⟩
    · rw [on_ne E _ e] at hi
      have := h.low i x hi
      exact ⟨this.1, by omega, this.2.2⟩
  · intro i x hi
    rw [hL] at hi
    rw [hat i]
    simp only
    by_cases e1 : i = R.k
    · rw [if_pos e1] at hi
      cases hi
      rw [if_neg (show ¬ i = c by omega), if_pos e1, hL, if_neg hmk, hat]
      simp only
      rw [if_neg hmk, if_pos trivial]
      exact ⟨hm.1, e1.symm⟩
    · rw [if_neg e1] at hi
      obtain ⟨a1, a2⟩ := h.nx i x hi
      by_cases e2 : i = c
      · rw [if_pos e2, hL, if_pos rfl, hat]
        simp only
        rw [if_pos trivial]
        rw [e2] at hi ⊢
        exact ⟨hlab.symm.trans hi, rfl⟩
      · rw [if_neg e2, if_neg e1, hL, if_neg (hnone _ _ a1), hat]
        simp only
        rw [if_neg (hnone _ _ a1), if_neg (fun e3 => e2 (by rw [e3] at a2; exact a2.symm.trans hm.2))]
        exact ⟨a1, a2⟩
  · intro i x hi
    rw [hL] at hi
    rw [hat i]
    simp only
    by_cases e1 : i = R.k
    · rw [if_pos e1] at hi
      cases hi
      rw [if_pos e1, hL, if_neg hck, hat]
      simp only
      rw [if_pos trivial]
      exact ⟨hlab, e1.symm⟩
    · rw [if_neg e1] at hi
      obtain ⟨a1, a2⟩ := h.pv i x hi
      rw [if_neg e1]
      by_cases e2 : i = (nodeAt nd c).n
      · rw [if_pos e2, hL, if_pos rfl, hat]
        simp only
        rw [if_neg (fun e3 => hck e3.symm), if_pos trivial]
        rw [e2] at hi ⊢
        exact ⟨hm.1.symm.trans hi, rfl⟩
      · rw [if_neg e2, hL, if_neg (hnone _ _ a1), hat]
        simp only
        rw [if_neg (fun e3 => e2 (by rw [e3] at a2; exact a2.symm)), if_neg (hnone _ _ a1)]
        exact ⟨a1, a2⟩
  · intro i x y hi
    rw [hat i]
    simp only
    by_cases e : i = R.k
    · rw [e, on_same] at hi
      cases hi
      rw [if_pos e]
    · rw [on_ne E _ e] at hi
      rw [if_neg e]
      exact h.val i x y hi
  · refine spL_congr (fun i hi => ?_) s1
    obtain ⟨m1, m2⟩ := s3 i hi
    have := h.spn i m1
    rw [hat i]
    simp only
    rw [if_neg (by omega), if_neg m2]
  · intro i hi
    obtain ⟨m1, m2⟩ := s3 i hi
    have := h.spn i m1
    exact ⟨this.1, by omega, by rw [on_ne E _ m2]; exact this.2.2⟩
  · intro i h1 h2
    by_cases e : i = R.k
    · left; rw [e, on_same]; intro h; cases h
    · rw [on_ne E _ e]
      rcases s4 i h1 h2 with h3 | h3
      · exact absurd h3 e
      · rcases h.all i h1 h3 with h4 | h4
        · exact .inl h4
        · exact (s5 i h4).imp (fun h5 => absurd h5 e) id
theorem Ch.ring0 : Ch Ar.ring0 0 (fun _ => none) [] := by
  have hn : ∀ i : Fin 17, nodeAt (ring 17) i.1 = ⟨0, i.1, i.1⟩ := by decide +kernel
  have hl : Ar.ring0.length = 17 := ring_len 17
  have hlab : ∀ i c, lab (fun _ => none) i = some c → i < 17 ∧ c = i := fun i c h => by
    unfold lab at h
    split at h
    · cases h; exact ⟨by assumption, rfl⟩
    · cases h
  refine ⟨by omega, ?_, ?_, ?_, ?_, rfl, List.nodup_nil, ?_, ?_⟩
  · intro i x h; cases h
  · intro i c h
    obtain ⟨h1, rfl⟩ := hlab i c h
    have := hn ⟨c, h1⟩
    unfold Ar.ring0
    simp only at this
    rw [this]
    simp only
    rw [this]
    exact ⟨h, rfl⟩
  · intro i c h
    obtain ⟨h1, rfl⟩ := hlab i c h
    have := hn ⟨c, h1⟩
    unfold Ar.ring0
    simp only at this
    rw [this]
    simp only
    rw [this]
    exact ⟨h, rfl⟩
  · intro i c v h; cases h
  · intro i h; cases h
  · intro i h1 h2; omega
end Ar
end Go.Proofs.YtagjjpmhacknpaaDoor

/- newHandles. -/
set_option maxRecDepth 100000
namespace Go.Proofs.YtagjjpmhacknpaaDoor
open Go.RowKit Go.Shelf
theorem make_one {t e : TypeId} {z : Value} {bytes : Nat} (h1 : Tryd.prog.underlying t = some (.slice e)) (h2 : (Tryd.prog.info? e).map (fun i => (i.zero, i.size, i.bytes)) = some (some z, 1, bytes)) (hb : bytes ≤ 8) (hz : z.cells = #[z]) (c : Int) (n : Nat) (hc : c = (n : Int)) (hn : n ≤ 10000000) (w : World) :
    (Instr.makeSlice t (.int .i64 c) (.int .i64 c)).run Tryd.prog w = .ok (.slice (some ⟨w.heap.size, 0, none⟩) n n) (w.alloc (.cells (List.replicate n z).toArray e)) := by
  subst hc
  obtain ⟨i, hi, hz0, hz1, hz2⟩ := info_parts h2
  have hle : (bytes : Int) * (n : Int) ≤ 281474976710656 := by
    rw [← Int.natCast_mul]
    have : bytes * n ≤ 8 * 10000000 := Nat.mul_le_mul hb hn
    omega
  have h := run_make (P := Tryd.prog) w t e i z h1 hi hz0 .i64 .i64 n n (by omega) (by omega) (by rw [hz2]; exact hle) (by omega)
  rw [h, hz1, hz]
  have e2 : madeCells #[z] ((n : Int).toNat * 1) = (List.replicate n z).toArray := by
    apply Array.toList_inj.1
    rw [toList_madeCells_one]
    simp
  rw [e2]
  rfl
theorem infoI32 : (Tryd.prog.info? 21).map (fun i => (i.zero, i.size, i.bytes)) = some (some (.int .i32 0), 1, 4) := by kernel_rfl
theorem infoU64 : (Tryd.prog.info? 81).map (fun i => (i.zero, i.size, i.bytes)) = some (some (.int .u64 0), 1, 8) := by kernel_rfl
theorem infoU8 : (Tryd.prog.info? 5).map (fun i => (i.zero, i.size, i.bytes)) = some (some (.int .u8 0), 1, 1) := by kernel_rfl
theorem Blk.at1 (w : World) (o : Obj) (l : List Value) (t : TypeId) : Blk ((w.alloc o).alloc (.cells l.toArray t)) (w.heap.size + 1) l t := by
  have := Blk.new (w.alloc o) l t
  rwa [World.size_alloc] at this
theorem Blk.at2 (w : World) (o o2 : Obj) (l : List Value) (t : TypeId) : Blk (((w.alloc o).alloc o2).alloc (.cells l.toArray t)) (w.heap.size + 1 + 1) l t := by
  have := Blk.new ((w.alloc o).alloc o2) l t
  rwa [World.size_alloc, World.size_alloc] at this
def HandRet (k : Nat) (w : World) (e : Ending) (w' : World) : Prop := ∃ P U, e = .returned (.agg #[.slice (some ⟨P, 0, none⟩) (k * 64) (k * 64), .slice (some ⟨U, 0, none⟩) k k, .int .i64 0]) ∧ Blk w' P (List.replicate (k * 64) (.int .i32 0)) 21 ∧ Blk w' U (List.replicate k (.int .u64 0)) 81 ∧ w.heap.size ≤ P ∧ w.heap.size ≤ U ∧ Below w.heap.size w w'
set_option maxHeartbeats 4000000 in
theorem newHandles_any (z : Int) (most k : Nat) (w : World) (hz : z = (most : Int)) (hm : most ≤ 65536) (hk : k = (most + 63) / 64) : Calls Tryd.prog 23 #[.int .i64 z] w (HandRet k w) := by
  subst hz
  have e1 : ((most : Int) + 64 - 1) / 64 = (k : Int) := by omega
  have hk2 : k ≤ 1024 := by omega
  have m1 := make_one Tryd.underlying56 infoI32 (by omega) rfl ((k : Int) * 64) (k * 64) (by omega) (by omega)
  have m2 := make_one Tryd.underlying57 infoU64 (by omega) rfl (k : Int) k rfl (by omega)
  have hw1 : IntKind.i64.wrap ((k : Int) * 64) = (k : Int) * 64 := by rw [IntKind.wrap_i64]; omega
  have E1 := Lib.hid e1
  clear e1 hk
  go_enter Tryd.func23, Tryd.ntmps23
  go_wp2
  rw [E1.out]
  go_region
  · go_wp2
    simp only [← List.toArray_replicate]
    refine bodyPost_ret (v := .agg #[.slice (some ⟨w.heap.size + 1, 0, none⟩) (k * 64) (k * 64), .slice (some ⟨w.heap.size + 1 + 1, 0, none⟩) k k, .int .i64 0]) (by simp [results, Tryd.results23, go_sem]) rfl ⟨_, _, rfl, ?_, ?_, by omega, by omega, ?_⟩
    · exact ((Blk.at1 w _ (List.replicate (k * 64) (.int .i32 0)) 21).alloc _)
    · exact (Blk.at2 w _ _ (List.replicate k (.int .u64 0)) 81)
    · exact ((((Below.refl _ _).alloc (Nat.le_refl _) _).alloc (by simp) _).alloc (by simp; omega) _).drew
  · go_wp2
    simp only [← List.toArray_replicate]
    refine bodyPost_ret (v := .agg #[.slice (some ⟨w.heap.size + 1 + 1, 0, none⟩) (k * 64) (k * 64), .slice (some ⟨w.heap.size + 1, 0, none⟩) k k, .int .i64 0]) (by simp [results, Tryd.results23, go_sem]) rfl ⟨_, _, rfl, ?_, ?_, by omega, by omega, ?_⟩
    · exact (Blk.at2 w _ _ (List.replicate (k * 64) (.int .i32 0)) 21)
    · exact ((Blk.at1 w _ (List.replicate k (.int .u64 0)) 81).alloc _)
    · exact ((((Below.refl _ _).alloc (Nat.le_refl _) _).alloc (by simp) _).alloc (by simp; omega) _).drew
end Go.Proofs.YtagjjpmhacknpaaDoor

/- A handle is given back. -/
set_option maxRecDepth 100000
namespace Go.Proofs.YtagjjpmhacknpaaDoor
open Go.RowKit Go.Shelf
namespace Ar
def dropHd (S : St) (k : Nat) : St := { S with us := S.us.set (k / 64) (S.us.getD (k / 64) 0 &&& (18446744073709551615 - 2 ^ (k % 64))), low := min S.low (k / 64) }
end Ar
set_option maxHeartbeats 2000000 in
theorem hdrop_any (A : Nat) (L : Loc) (S : Ar.St) (f : Nat → Prop) (z : Int) (k : Nat) (w : World) (hz : z = (k : Int) + 1) (hA : ArE A L S f w) (hk : k < S.pl.length) (h3 : S.pl.length ≤ 1000000) (h4 : S.pl.length = 64 * S.us.length) (h5 : ∀ x ∈ S.us, x < 18446744073709551616) (_h6 : S.low ≤ 1000000) :
    Calls Tryd.prog 34 #[.pointer (some ⟨A, 2, none⟩), .int .i64 z] w fun e w' => e = .returned (.tuple #[]) ∧ Trn f w w' ∧ ArE A L (Ar.dropHd S k) f w' := by
  subst hz
  have hc3 := hA.cells.2.2.2.1
  have hc4 := hA.cells.2.2.2.2.1
  have hf4 := hA.box.frozen 4
  have hk2 : k / 64 < S.us.length := by omega
  have hu := hA.us.cell (i := k / 64) (v := encU (S.us.getD (k / 64) 0)) (by simp [hk2])
  have hfu := hA.us.frozen (k / 64)
  have hu64 : S.us.getD (k / 64) 0 < 18446744073709551616 := by simp only [List.getD, List.getElem?_eq_getElem hk2, Option.getD_some]; exact h5 _ (List.getElem_mem hk2)
  have hUA : A ≠ L.U := hA.box.ne hA.us (by decide)
  unfold encU at hu
  unfold encI at hc4
  have H4 := Lib.hid h4
  clear h4
  have hp := pow_lt64 (Nat.mod_lt k (show 0 < 64 by decide))
  have R : ∀ m : Nat, m = 2 ^ (k % 64) → bits .andNot .u64 ((S.us.getD (k / 64) 0 : Nat) : Int) (m : Int) = ((S.us.getD (k / 64) 0 &&& (18446744073709551615 - m) : Nat) : Int) := fun m e => u64_andNot_nat _ _ hu64 (e ▸ hp)
  have fin : ∀ m n : Nat, m = 2 ^ (k % 64) → Trn f w ((((w.drewN n).setCell ⟨L.U, k / 64, none⟩ (encU (S.us.getD (k / 64) 0 &&& (18446744073709551615 - m)))).setCell ⟨A, 4, none⟩ (encI (min S.low (k / 64))))) ∧ ArE A L (Ar.dropHd S k) f ((((w.drewN n).setCell ⟨L.U, k / 64, none⟩ (encU (S.us.getD (k / 64) 0 &&& (18446744073709551615 - m)))).setCell ⟨A, 4, none⟩ (encI (min S.low (k / 64))))) := fun m n e => by
    subst e
    have hA1 := hA.drew n
    have hb := hA1.us.set (k / 64) (encU (S.us.getD (k / 64) 0 &&& (18446744073709551615 - 2 ^ (k % 64))))
    rw [← List.map_set] at hb
    have hA2 := hA1.setUs hb (by simp) (fun j hj _ => Below.heap_setCell (w.drewN n) ⟨L.U, k / 64, none⟩ _ j hj) (by simp [World.setCell])
    have t2 : Trn f w ((w.drewN n).setCell ⟨L.U, k / 64, none⟩ (encU (S.us.getD (k / 64) 0 &&& (18446744073709551615 - 2 ^ (k % 64))))) := (Trn.drew w n).trans (Trn.set hA1.us (.inl hA.fU) _ _)
    refine ⟨t2.trans (Trn.set hA2.box (.inl hA.fA) _ _), hA2.setBox 4 _ ?_ rfl rfl rfl rfl⟩
    unfold arBox Ar.dropHd
    simp
  have Fin := Lib.hid fin
  have HR := Lib.hid R
  clear fin R
  have hmin : ((min S.low (k / 64) : Nat) : Int) = min (S.low : Int) ((k : Int) / 64) := by omega
  have Hmin := Lib.hid hmin
  clear hmin
  generalize hxx : S.us.getD (k / 64) 0 = x at hu hu64 Fin HR
  clear hxx
  go_enter Tryd.func34, Tryd.ntmps34
  go_wp2_with (go_at_call 50; (with_reducible refine (bit_any _ k _ rfl (by omega)).mono ?_); rintro e w' ⟨m, hm, rfl, n, rfl⟩; have hbm := HR.out m hm.out; have hfin := Lib.hid (Fin.out m n hm.out))
  go_end0
  have e := hfin.out
  unfold encU encI at e
  rw [Hmin.out] at e
  exact ⟨rfl, e⟩
end Go.Proofs.YtagjjpmhacknpaaDoor
