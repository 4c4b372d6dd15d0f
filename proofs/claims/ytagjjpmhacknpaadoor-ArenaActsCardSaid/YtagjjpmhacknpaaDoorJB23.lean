/- 20 texts put together: OrderMath, FoldMath, Valid, Fold, Iwp, Inw, Ipu, Iad, Iun, Icm, Iul, Idr, Idl, Ico, Ts, Tv, Aw7, Av7, Fum, Mtb. -/
import Derived.WalkKit
import Derived.Test.YtagjjpmhacknpaaDoorProg
import Derived.Lib.Hide
import Derived.BigQuiet
import Derived.Deep.QuietTactic
import Derived.OwnWalkIn
import Derived.TacticsInMore
import Derived.LoopNIn
import Derived.LoopIn
import Derived.Lib.ConvBytes
import Derived.Lib.AtoiErrMem
import Derived.StillTailTactics
import Derived.Test.YtagjjpmhacknpaaDoorJB15
import Derived.Test.YtagjjpmhacknpaaDoorJB21
import Derived.Test.YtagjjpmhacknpaaDoorJB22
/- The order of names, in Lean: total, transitive; a zone is ahead of all that is under it. -/
namespace Go.Proofs.YtagjjpmhacknpaaDoor.Nm

theorem cmpN_cons_lt {a b : UInt8} {x y : List UInt8} (h : (small a).toNat < (small b).toNat) : cmpN (a :: x) (b :: y) = -1 := by
  rw [cmpN, cmpI_lt (by omega), if_neg (by decide)]
theorem cmpN_cons_gt {a b : UInt8} {x y : List UInt8} (h : (small b).toNat < (small a).toNat) : cmpN (a :: x) (b :: y) = 1 := by
  rw [cmpN, cmpI_gt (by omega), if_neg (by decide)]
theorem cmpN_cons_eq {a b : UInt8} {x y : List UInt8} (h : (small a).toNat = (small b).toNat) : cmpN (a :: x) (b :: y) = cmpN x y := by
  rw [cmpN, cmpI_eq (by omega) (by omega), if_pos rfl]
theorem cmpN_anti : ∀ a b : List UInt8, cmpN b a = - cmpN a b
  | [], [] => rfl
  | [], _ :: _ => rfl
  | _ :: _, [] => rfl
  | a :: x, b :: y => by
    rcases Nat.lt_trichotomy (small a).toNat (small b).toNat with h | h | h
    · rw [cmpN_cons_lt h, cmpN_cons_gt h]; rfl
    · rw [cmpN_cons_eq h, cmpN_cons_eq h.symm, cmpN_anti x y]
    · rw [cmpN_cons_lt h, cmpN_cons_gt h]
theorem cmpN_trans : ∀ a b c : List UInt8, cmpN a b ≤ 0 → cmpN b c ≤ 0 → cmpN a c ≤ 0 ∧ (cmpN a b < 0 ∨ cmpN b c < 0 → cmpN a c < 0)
  | [], [], [] => by simp [cmpN]
  | [], [], _ :: _ => by simp [cmpN]
  | [], _ :: _, [] => by simp [cmpN]
  | [], _ :: _, _ :: _ => by simp [cmpN]
  | _ :: _, [], _ => by simp [cmpN]
  | _ :: _, _ :: _, [] => by simp [cmpN]
  | a :: x, b :: y, c :: z => by
    intro h1 h2
    rcases Nat.lt_trichotomy (small a).toNat (small b).toNat with h | h | h
    · rcases Nat.lt_trichotomy (small b).toNat (small c).toNat with k | k | k
      · rw [cmpN_cons_lt (by omega : (small a).toNat < (small c).toNat)]; omega
      · rw [cmpN_cons_lt (by omega : (small a).toNat < (small c).toNat)]; omega
      · rw [cmpN_cons_gt k] at h2; omega
    · rcases Nat.lt_trichotomy (small b).toNat (small c).toNat with k | k | k
      · rw [cmpN_cons_lt (by omega : (small a).toNat < (small c).toNat)]; omega
      · rw [cmpN_cons_eq h] at h1
        rw [cmpN_cons_eq k] at h2
        rw [cmpN_cons_eq h, cmpN_cons_eq k, cmpN_cons_eq (by omega : (small a).toNat = (small c).toNat)]
        exact cmpN_trans x y z h1 h2
      · rw [cmpN_cons_gt k] at h2; omega
    · rw [cmpN_cons_gt h] at h1; omega

theorem lessR_cons_lt {x y : List UInt8} {xs ys : List (List UInt8)} (h : cmpN x y < 0) : lessR (x :: xs) (y :: ys) = true := by
  rw [lessR, if_pos (by omega)]; simpa using h
theorem lessR_cons_gt {x y : List UInt8} {xs ys : List (List UInt8)} (h : 0 < cmpN x y) : lessR (x :: xs) (y :: ys) = false := by
  rw [lessR, if_pos (by omega)]; simp; omega
theorem lessR_cons_eq {x y : List UInt8} {xs ys : List (List UInt8)} (h : cmpN x y = 0) : lessR (x :: xs) (y :: ys) = lessR xs ys := by
  rw [lessR, if_neg (by omega)]
theorem lessR_tri : ∀ xs ys : List (List UInt8), (lessR xs ys = true ∧ lessR ys xs = false ∧ xs.map folded ≠ ys.map folded) ∨ (lessR xs ys = false ∧ lessR ys xs = true ∧ xs.map folded ≠ ys.map folded) ∨ (lessR xs ys = false ∧ lessR ys xs = false ∧ xs.map folded = ys.map folded)
  | [], [] => .inr (.inr ⟨rfl, rfl, rfl⟩)
  | [], _ :: _ => .inl ⟨rfl, rfl, by simp⟩
  | _ :: _, [] => .inr (.inl ⟨rfl, rfl, by simp⟩)
  | x :: xs, y :: ys => by
    have ha := cmpN_anti x y
    rcases Int.lt_trichotomy (cmpN x y) 0 with h | h | h
    · refine .inl ⟨lessR_cons_lt h, lessR_cons_gt (by omega), fun e => ?_⟩
      simp only [List.map_cons, List.cons.injEq] at e
      have := cmpN_zero.2 e.1
      omega
    · have h0 := cmpN_zero.1 h
      rcases lessR_tri xs ys with ⟨h1, h2, h3⟩ | ⟨h1, h2, h3⟩ | ⟨h1, h2, h3⟩
      · exact .inl ⟨(lessR_cons_eq h).trans h1, (lessR_cons_eq (by omega)).trans h2, by simp [h3]⟩
      · exact .inr (.inl ⟨(lessR_cons_eq h).trans h1, (lessR_cons_eq (by omega)).trans h2, by simp [h3]⟩)
      · exact .inr (.inr ⟨(lessR_cons_eq h).trans h1, (lessR_cons_eq (by omega)).trans h2, by simp [h3, h0]⟩)
    · refine .inr (.inl ⟨lessR_cons_gt h, lessR_cons_lt (by omega), fun e => ?_⟩)
      simp only [List.map_cons, List.cons.injEq] at e
      have := cmpN_zero.2 e.1
      omega
theorem lessR_trans : ∀ xs ys zs : List (List UInt8), lessR xs ys = true → lessR ys zs = true → lessR xs zs = true
  | [], [], _ => by simp [lessR]
  | [], _ :: _, [] => by simp [lessR]
  | [], _ :: _, _ :: _ => by simp [lessR]
  | _ :: _, [], _ => by simp [lessR]
  | _ :: _, _ :: _, [] => by simp [lessR]
  | x :: xs, y :: ys, z :: zs => by
    intro h1 h2
    have hxy : cmpN x y ≤ 0 := by
      rcases Int.lt_or_le 0 (cmpN x y) with h | h
      · rw [lessR_cons_gt h] at h1; cases h1
      · exact h
    have hyz : cmpN y z ≤ 0 := by
      rcases Int.lt_or_le 0 (cmpN y z) with h | h
      · rw [lessR_cons_gt h] at h2; cases h2
      · exact h
    obtain ⟨t1, t2⟩ := cmpN_trans x y z hxy hyz
    by_cases h : cmpN x y < 0 ∨ cmpN y z < 0
    · exact lessR_cons_lt (t2 h)
    · have e1 : cmpN x y = 0 := by omega
      have e2 : cmpN y z = 0 := by omega
      have e3 : cmpN x z = 0 := cmpN_zero.2 ((cmpN_zero.1 e1).trans (cmpN_zero.1 e2))
      rw [lessR_cons_eq e1] at h1
      rw [lessR_cons_eq e2] at h2
      rw [lessR_cons_eq e3]
      exact lessR_trans xs ys zs h1 h2
theorem lessR_prefix : ∀ xs ys : List (List UInt8), xs.map folded <+: ys.map folded → xs.map folded = ys.map folded ∨ lessR xs ys = true
  | [], [], _ => .inl rfl
  | [], _ :: _, _ => .inr rfl
  | _ :: _, [], h => by simp at h
  | x :: xs, y :: ys, h => by
    simp only [List.map_cons, List.cons_prefix_cons] at h
    rcases lessR_prefix xs ys h.2 with e | e
    · exact .inl (by simp [h.1, e])
    · exact .inr ((lessR_cons_eq (cmpN_zero.2 h.1)).trans e)

/-! ### Of names -/
theorem labs_of_valid {n : List UInt8} (h : valid n = true) : labs n = some (labsD n) ∧ n = made (labsD n) ∧ good (labsD n) ∧ n.length ≤ 255 := by
  unfold valid at h
  obtain ⟨ls, hl⟩ := Option.isSome_iff_exists.1 h
  have e : labsD n = ls := by unfold labsD; rw [hl]; rfl
  rw [e]
  exact ⟨hl, labs_iff.1 hl⟩
theorem rev_map_inj {a b : List (List UInt8)} : a.reverse.map folded = b.reverse.map folded ↔ a.map folded = b.map folded := by
  rw [List.map_reverse, List.map_reverse, List.reverse_inj]
theorem same_valid {a b : List UInt8} (ha : valid a = true) (hb : valid b = true) : same a b = decide ((labsD a).map folded = (labsD b).map folded) := by
  obtain ⟨_, ea, ga, la⟩ := labs_of_valid ha
  obtain ⟨eb, _⟩ := labs_of_valid hb
  have h := same_made (b := labsD a) (z := b) ga (by rw [← ea]; exact la) eb
  rw [← ea] at h
  exact h
theorem under_valid {a b : List UInt8} (ha : valid a = true) (hb : valid b = true) : under a b = decide ((labsD b).map folded <:+ (labsD a).map folded) := by
  unfold under
  rw [(labs_of_valid ha).1, (labs_of_valid hb).1]
theorem less_valid {a b : List UInt8} (ha : valid a = true) (hb : valid b = true) : less a b = lessR (labsD a).reverse (labsD b).reverse := by
  unfold less; rw [ha, hb]; rfl
theorem order_tri {a b : List UInt8} (ha : valid a = true) (hb : valid b = true) : (less a b = true ∧ less b a = false ∧ same a b = false) ∨ (less a b = false ∧ less b a = true ∧ same a b = false) ∨ (less a b = false ∧ less b a = false ∧ same a b = true) := by
  rw [less_valid ha hb, less_valid hb ha, same_valid ha hb]
  have h := lessR_tri (labsD a).reverse (labsD b).reverse
  rw [Ne, rev_map_inj] at h
  simpa using h
theorem order_trans {a b c : List UInt8} (ha : valid a = true) (hb : valid b = true) (hc : valid c = true) (h1 : less a b = true) (h2 : less b c = true) : less a c = true := by
  rw [less_valid ha hb] at h1
  rw [less_valid hb hc] at h2
  rw [less_valid ha hc]
  exact lessR_trans _ _ _ h1 h2
theorem order_under {a b : List UInt8} (ha : valid a = true) (hb : valid b = true) (h : under a b = true) : same a b = true ∨ less b a = true := by
  rw [under_valid ha hb, decide_eq_true_eq] at h
  have hp : (labsD b).reverse.map folded <+: (labsD a).reverse.map folded := by
    rw [List.map_reverse, List.map_reverse, List.reverse_prefix]; exact h
  rcases lessR_prefix _ _ hp with e | e
  · rw [rev_map_inj] at e
    exact .inl (by rw [same_valid ha hb]; simp [e])
  · exact .inr (by rw [less_valid hb ha]; exact e)
theorem under_refl {a : List UInt8} (ha : valid a = true) : under a a = true := by
  rw [under_valid ha ha]; simp
theorem under_root {a : List UInt8} (ha : valid a = true) : under a [0] = true := by
  have hz : valid [0] = true := by decide
  rw [under_valid ha hz]
  have : labsD [0] = [] := by decide
  simp [this]
theorem under_trans {a b c : List UInt8} (ha : valid a = true) (hb : valid b = true) (hc : valid c = true) (h1 : under a b = true) (h2 : under b c = true) : under a c = true := by
  rw [under_valid ha hb, decide_eq_true_eq] at h1
  rw [under_valid hb hc, decide_eq_true_eq] at h2
  rw [under_valid ha hc, decide_eq_true_eq]
  exact h2.trans h1
theorem under_same {a b : List UInt8} (ha : valid a = true) (hb : valid b = true) (h : same a b = true) : under a b = true := by
  rw [same_valid ha hb, decide_eq_true_eq] at h
  rw [under_valid ha hb, h]; simp
end Go.Proofs.YtagjjpmhacknpaaDoor.Nm

/- Plain mathematics of folding. -/
namespace Go.Proofs.YtagjjpmhacknpaaDoor
namespace Nm
def foldTo (n : List UInt8) (k : Nat) : List UInt8 := (folded n).take k ++ n.drop k
theorem foldTo_length (n : List UInt8) (k : Nat) : (foldTo n k).length = n.length := by
  simp [foldTo, folded_length]; omega
theorem foldTo_zero (n : List UInt8) : foldTo n 0 = n := by simp [foldTo]
theorem foldTo_end (n : List UInt8) : foldTo n n.length = folded n := by simp [foldTo, ← folded_length n]
theorem foldTo_get {n : List UInt8} {k : Nat} (h : k < n.length) : (foldTo n k)[k]'(by rw [foldTo_length]; exact h) = n[k] := by
  unfold foldTo
  rw [List.getElem_append_right (by rw [List.length_take, folded_length]; omega)]
  simp [folded_length, Nat.min_eq_left (Nat.le_of_lt h)]
theorem foldTo_set {n : List UInt8} {k : Nat} (h : k < n.length) : (foldTo n k).set k (small n[k]) = foldTo n (k + 1) := by
  have hl : ((folded n).take k).length = k := by rw [List.length_take, folded_length]; omega
  have hF : k < (folded n).length := by rw [folded_length]; exact h
  have hg : (folded n)[k] = small n[k] := by simp [folded]
  unfold foldTo
  rw [List.set_append_right k (small n[k]) (by omega), hl, Nat.sub_self, drop_cons h, List.set_cons_zero, List.take_succ_eq_append_getElem hF, hg, List.append_assoc]
  rfl
def fold (n : List UInt8) : List UInt8 := if valid n then folded n else n
end Nm
end Go.Proofs.YtagjjpmhacknpaaDoor

/- What Valid answers. -/
namespace Go.Proofs.YtagjjpmhacknpaaDoor
open Go.RowKit


end Go.Proofs.YtagjjpmhacknpaaDoor

/- Fold. -/
namespace Go.Proofs.YtagjjpmhacknpaaDoor
open Go.RowKit Go.Shelf
attribute [local go_sem] Oper.semAt_some

/-- A row of bytes that may be written. -/
def Row8 (g : Nat) (L : List UInt8) (W : World) : Prop := ∀ (j : Nat) (h : j < L.length), W.cell? ⟨g, j, none⟩ = some (.int .u8 (L[j].toNat : Int)) ∧ W.frozen? ⟨g, j, none⟩ = false
theorem Row8.set {g k : Nat} {L : List UInt8} {W : World} (h : Row8 g L W) (hk : k < L.length) (c : UInt8) : Row8 g (L.set k c) (W.setCell ⟨g, k, none⟩ (.int .u8 (c.toNat : Int))) := by
  intro j hj
  rw [List.length_set] at hj
  obtain ⟨h1, h2⟩ := h j hj
  refine ⟨?_, by rw [World.frozen?_setCell]; exact h2⟩
  by_cases e : j = k
  · subst e
    rw [World.cell?_setCell_same' _ _ _ (by rw [h1]; rfl)]
    simp
  · rw [World.cell?_setCell_other _ _ _ _ (by intro e'; cases e'; exact e rfl), h1, List.getElem_set_ne (Ne.symm e)]
theorem row8_conv (w : World) (e : TypeId) (l : List UInt8) : Row8 w.heap.size l (Lib.bytesWorld w e ⟨l.toArray⟩) := by
  intro j hj
  have hs : j < (⟨l.toArray⟩ : ByteArray).size := by show j < l.toArray.size; simpa using hj
  refine ⟨?_, ?_⟩
  · rw [Lib.bytesWorld_cell w e ⟨l.toArray⟩ j hs]
    simp [List.getD, hj]
  · simp [World.frozen?, Lib.bytesWorld_at_new]
    have : l.length ≤ (Lib.bytesCells w e ⟨l.toArray⟩).size := by simp [Lib.bytesCells]
    omega
theorem Row8.str {g cap : Nat} {L : List UInt8} {W : World} (h : Row8 g L W) {src dst e : TypeId} {P : Program} (hs : P.underlying src = some (.slice e)) (he : P.underlying e = some (.int .u8)) (hd : P.underlying dst = some .string) :
    (convert src dst (.slice (some ⟨g, 0, none⟩) L.length cap)).run P W = .ok (.string ⟨L.toArray⟩) W :=
  run_convert_bytes_back W src dst e ⟨g, 0, none⟩ cap L hs he hd (fun j hj => by
    have e : (⟨g, 0, none⟩ : Addr).add j = ⟨g, j, none⟩ := by unfold Addr.add; split <;> simp_all
    rw [e]; exact (h j hj).1)


end Go.Proofs.YtagjjpmhacknpaaDoor

/- Package intern: Name, Uses, Find, Count. -/
set_option maxRecDepth 100000
namespace Go.Proofs.YtagjjpmhacknpaaDoor
open Go.RowKit Go.Shelf
attribute [local go_sem] Oper.semAt_some
end Go.Proofs.YtagjjpmhacknpaaDoor

/- Package intern: New, Cost. -/
set_option maxRecDepth 100000
namespace Go.Proofs.YtagjjpmhacknpaaDoor
open Go.RowKit Go.Shelf
attribute [local go_sem] Oper.semAt_some
theorem budget_x (x : Nat → Prop) (A B : Nat) (L : List Bl) (n0 : Nat) (w : World) (h : HX x A B L n0 w) : Calls Tryd.prog 41 #[.pointer (some ⟨A, 0, none⟩)] w fun e w' => e = .returned (.int .i64 (B : Int)) ∧ w = w' := by
  obtain ⟨bs, ⟨L', S, pcs, a, I, e, rfl⟩, hv⟩ := h.ex
  exact budget_any A L' S _ w a
def emptyF (B : Nat) : List Nat := List.replicate (1 + B / 64) 0
theorem tot_nil : ∀ n, tot (fun _ => []) n = 0
  | 0 => rfl
  | n + 1 => by unfold tot; rw [tot_nil n]; rfl
theorem ti_empty (B : Nat) (hB : B ≤ 1048576) (L : List Bl) : TI (1 + B / 64) (fun _ => []) (emptyF B) 0 L := by
  refine ⟨by omega, by omega, by simp [emptyF], fun c hc => ?_, fun _ _ => trivial, fun _ _ e he => (by cases he), fun _ _ => List.nodup_nil, tot_nil _, by omega, fun _ _ e he => (by cases he)⟩
  unfold emptyF
  rw [List.getElem?_replicate, if_pos hc]
  rfl
/-- What a name would cost. -/
theorem cost_call (n : Nat) (z : Int) (w : World) (hz : z = 8 + (n : Int)) : Calls Tryd.prog 20 #[.int .i64 z] w fun e w' => e = .returned (.int .i64 (Ar.costI ((n + 8 : Nat) : Int) : Int)) ∧ w = w' := by
  subst hz
  have h := cost_any ((n + 8 : Nat) : Int) w
  rw [show ((n + 8 : Nat) : Int) = 8 + (n : Int) by omega] at h ⊢
  exact h
end Go.Proofs.YtagjjpmhacknpaaDoor

/- Package intern: a new name. -/
set_option maxRecDepth 100000
namespace Go.Proofs.YtagjjpmhacknpaaDoor
open Go.RowKit Go.Shelf
attribute [local go_sem] Oper.semAt_some
theorem linked_mono {L L' : List Bl} : ∀ {R : List Ent}, linked L R → (∀ e ∈ R, ∀ d, (e.id, d) ∈ L → (e.id, d) ∈ L') → linked L' R
  | [], _, _ => trivial
  | e :: r, h, hm => ⟨hm e (by simp) _ h.1, linked_mono h.2 fun z hz d hd => hm z (List.mem_cons_of_mem _ hz) d hd⟩
/-- One chain is another one. -/
theorem TI.chain {nn cnt cnt' : Nat} {C : Nat → List Ent} {F F' : List Nat} {L L' : List Bl} {c : Nat} {l : List Ent} (I : TI nn C F cnt L) (hc : c < nn) (hF : F' = F.set c (headId l)) (hcnt : cnt' + (C c).length = cnt + l.length) (hlim : cnt' ≤ 1000000) (hl : linked L' l) (ho : ∀ k, k < nn → k ≠ c → ∀ e ∈ C k, ∀ d, (e.id, d) ∈ L → (e.id, d) ∈ L')
    (hh : ∀ e ∈ l, hashN e.name % nn = c) (hn : (l.map Ent.name).Nodup) (hs : ∀ e ∈ l, e.uses < 2147483648 ∧ e.id < 2147483648 ∧ e.name.length ≤ 300) : TI nn (upd C c l) F' cnt' L' := by
  subst hF
  refine ⟨I.pos, I.lim, by rw [List.length_set]; exact I.len, fun k h => ?_, fun k h => ?_, fun k h e he => ?_, fun k h => ?_, ?_, hlim, fun k h e he => ?_⟩
  · rw [List.getElem?_set]
    by_cases e : k = c
    · subst e
      rw [if_pos rfl, if_pos (by rw [I.len]; exact h), upd_same]
    · rw [if_neg (fun e' => e e'.symm), I.first k h, upd_other e]
  · by_cases e : k = c
    · subst e; rw [upd_same]; exact hl
    · rw [upd_other e]
      exact linked_mono (I.link k h) fun z hz d hd => ho k h e z hz d hd
  · by_cases e1 : k = c
    · subst e1; rw [upd_same] at he; exact hh e he
    · rw [upd_other e1] at he; exact I.hash k h e he
  · by_cases e1 : k = c
    · subst e1; rw [upd_same]; exact hn
    · rw [upd_other e1]; exact I.names k h
  · have := tot_upd (C := C) (l := l) hc
    have := I.count
    omega
  · by_cases e1 : k = c
    · subst e1; rw [upd_same] at he; exact hs e he
    · rw [upd_other e1] at he; exact I.small k h e he
theorem TI.push {nn cnt : Nat} {C : Nat → List Ent} {F : List Nat} {L1 L2 : List Bl} {id : Nat} {name : List UInt8} (I : TI nn C F cnt (L1 ++ L2)) (hi2 : id < 2147483648) (hn : name.length ≤ 300) (hnew : ∀ c, c < nn → ∀ e ∈ C c, e.name ≠ name) (hcnt : cnt < 1000000) :
    TI nn (upd C (hashN name % nn) (⟨id, 1, name⟩ :: C (hashN name % nn))) (F.set (hashN name % nn) id) (cnt + 1) (L1 ++ (id, blkE 1 (headId (C (hashN name % nn))) name) :: L2) := by
  have hc : hashN name % nn < nn := Nat.mod_lt _ I.pos
  have hmono : ∀ b, b ∈ L1 ++ L2 → b ∈ L1 ++ (id, blkE 1 (headId (C (hashN name % nn))) name) :: L2 := fun b hb => by rcases List.mem_append.1 hb with hb | hb <;> simp [hb]
  refine I.chain hc rfl (by rw [List.length_cons]; omega) (by omega) ⟨by simp, linked_mono (I.link _ hc) fun z _ d hd => hmono _ hd⟩ (fun k _ _ e _ d hd => hmono _ hd) (fun e he => ?_) ?_ (fun e he => ?_)
  · rcases List.mem_cons.1 he with rfl | he
    · rfl
    · exact I.hash _ hc e he
  · rw [List.map_cons, List.nodup_cons]
    refine ⟨fun hm => ?_, I.names _ hc⟩
    obtain ⟨z, hz, e2⟩ := List.mem_map.1 hm
    exact hnew _ hc z hz e2
  · rcases List.mem_cons.1 he with rfl | he
    · exact ⟨by simp only; omega, hi2, hn⟩
    · exact I.small _ hc e he
/-- Another number of uses. -/
theorem TI.use {nn cnt c u : Nat} {C : Nat → List Ent} {F : List Nat} {L1 L2 : List Bl} {P R : List Ent} {y : Ent} (I : TI nn C F cnt (L1 ++ (y.id, blkE y.uses (headId R) y.name) :: L2)) (hs : (L1 ++ (y.id, blkE y.uses (headId R) y.name) :: L2).Pairwise (fun a b => a.1 < b.1)) (hc : c < nn) (hC : C c = P ++ y :: R) (hu : u < 2147483648) :
    TI nn (upd C c (P ++ ⟨y.id, u, y.name⟩ :: R)) F cnt (L1 ++ (y.id, blkE u (headId R) y.name) :: L2) := by
  have hothers : ∀ k, k < nn → ∀ e ∈ C k, e.name ≠ y.name → ∀ d, (e.id, d) ∈ L1 ++ (y.id, blkE y.uses (headId R) y.name) :: L2 → (e.id, d) ∈ L1 ++ (y.id, blkE u (headId R) y.name) :: L2 := fun k hk e he hne d hd => by
    rcases List.mem_append.1 hd with hd | hd
    · simp [hd]
    · rcases List.mem_cons.1 hd with hd | hd
      · exfalso
        obtain ⟨nx, hnx, hm⟩ := I.mem hk he
        have h1 : e.id = y.id := (Prod.mk.inj hd).1
        have h2 := srt_mem hs hm (show (y.id, blkE y.uses (headId R) y.name) ∈ _ by simp) h1
        have h3 := congrArg (fun z => List.drop 8 z) (Prod.mk.inj h2).2
        exact hne h3
      · simp [hd]
  have hyC : y ∈ C c := by rw [hC]; simp
  have hnd := I.names c hc
  have hhd : headId (P ++ (⟨y.id, u, y.name⟩ : Ent) :: R) = headId (C c) := by rw [hC]; cases P <;> rfl
  have hFc : F = F.set c (headId (P ++ (⟨y.id, u, y.name⟩ : Ent) :: R)) := by
    rw [hhd]
    exact (set_same (I.first c hc)).symm
  have hne2 : ∀ e ∈ P ++ R, e.name ≠ y.name := fun e he hn => by
    rw [hC, List.map_append, List.map_cons, List.nodup_append] at hnd
    obtain ⟨_, h2, h3⟩ := hnd
    rw [List.nodup_cons] at h2
    rcases List.mem_append.1 he with he | he
    · exact h3 e.name (List.mem_map_of_mem he) y.name (by simp) hn
    · exact h2.1 (hn ▸ List.mem_map_of_mem he)
  refine I.chain hc hFc (by rw [hC]; simp) I.clim ?_ (fun k hk hkc e he d hd => hothers k hk e he (fun hn => hkc ?_) d hd) (fun e he => ?_) ?_ (fun e he => ?_)
  · have hl := I.link c hc
    rw [hC] at hl
    have key : ∀ (Q : List Ent), (∀ e ∈ Q, e.name ≠ y.name ∧ e ∈ C c) → linked (L1 ++ (y.id, blkE y.uses (headId R) y.name) :: L2) (Q ++ y :: R) → linked (L1 ++ (y.id, blkE u (headId R) y.name) :: L2) (Q ++ ⟨y.id, u, y.name⟩ :: R) := fun Q => by
      induction Q with
      | nil =>
        intro _ h
        exact ⟨by simp, linked_mono h.2 fun z hz d hd => hothers c hc z (by rw [hC]; simp [hz]) (hne2 z (by simp [hz])) d hd⟩
      | cons q Q ih =>
        intro hq h
        refine ⟨?_, ih (fun e he => hq e (List.mem_cons_of_mem _ he)) h.2⟩
        have hx := hothers c hc q (hq q (by simp)).2 (hq q (by simp)).1 _ h.1
        have he : headId (Q ++ (⟨y.id, u, y.name⟩ : Ent) :: R) = headId (Q ++ y :: R) := by cases Q <;> rfl
        show (q.id, blkE q.uses (headId (Q ++ (⟨y.id, u, y.name⟩ : Ent) :: R)) q.name) ∈ _
        rw [he]
        exact hx
    exact key P (fun e he => ⟨hne2 e (by simp [he]), by rw [hC]; simp [he]⟩) hl
  · rw [← I.hash k hk e he, hn]; exact I.hash c hc y hyC
  · rcases List.mem_append.1 he with he | he
    · exact I.hash c hc e (by rw [hC]; simp [he])
    · rcases List.mem_cons.1 he with rfl | he
      · exact I.hash c hc y hyC
      · exact I.hash c hc e (by rw [hC]; simp [he])
  · rw [hC] at hnd
    simpa using hnd
  · rcases List.mem_append.1 he with he | he
    · exact I.small c hc e (by rw [hC]; simp [he])
    · rcases List.mem_cons.1 he with rfl | he
      · have := I.small c hc y hyC
        exact ⟨hu, this.2⟩
      · exact I.small c hc e (by rw [hC]; simp [he])
theorem least_le {x : Nat → Prop} {A B : Nat} {L1 L2 : List Bl} {n0 : Nat} {w : World} (h : HX x A B (L1 ++ L2) n0 w) : L1.length ≤ 65536 := by
  have hs := h.sum_le
  have h1 : ∀ (L : List Bl), (∀ b ∈ L, b.2.length ≤ 4096) → 16 * L.length ≤ sumC L := fun L => by
    induction L with
    | nil => intro _; simp [sumC]
    | cons b L ih =>
      intro hb
      have h2 := ih fun z hz => hb z (List.mem_cons_of_mem _ hz)
      have h3 := Ar.cost_ge b.2.length (hb b (by simp))
      rw [sumC_cons, List.length_cons]
      omega
  have h2 := h1 _ fun b hb => (h.each.2 b hb).2
  rw [List.length_append] at h2
  omega
end Go.Proofs.YtagjjpmhacknpaaDoor

/- Package intern: Add. -/
set_option maxRecDepth 100000
namespace Go.Proofs.YtagjjpmhacknpaaDoor
open Go.RowKit Go.Shelf
attribute [local go_sem] Oper.semAt_some
theorem LX.less {x y : Nat → Prop} {A B : Nat} {L : List Bl} {n0 : Nat} {w w' : World} (h : LX y A B L n0 w w') (hy : ∀ k, x k → y k) : LX x A B L n0 w w' := ⟨h.at_.less hy, h.below, fun k hk => h.own k (hy k hk)⟩
theorem LX.from {x : Nat → Prop} {A B : Nat} {L : List Bl} {n0 : Nat} {w w1 w' : World} (h : HX x A B L n0 w) (hb : Below w.heap.size w w1) {L' : List Bl} (k : LX x A B L' n0 w1 w') : LX x A B L' n0 w w' := (h.lx hb).to k
def AddUp (x : Nat → Prop) (A B : Nat) (C : Nat → List Ent) (L : List Bl) (n0 c : Nat) (y : Ent) (u : Nat) (w : World) (w' : World) : Prop :=
  ∃ P R L1 L2, C c = P ++ y :: R ∧ L = L1 ++ (y.id, blkE y.uses (headId R) y.name) :: L2 ∧ LX x A B (L1 ++ (y.id, blkE u (headId R) y.name) :: L2) n0 w w'
end Go.Proofs.YtagjjpmhacknpaaDoor

/- Package intern: a name is taken out of its chain. -/
set_option maxRecDepth 100000
namespace Go.Proofs.YtagjjpmhacknpaaDoor
open Go.RowKit Go.Shelf
attribute [local go_sem] Oper.semAt_some
end Go.Proofs.YtagjjpmhacknpaaDoor

/- Package intern: a name leaves its chain. -/
set_option maxRecDepth 100000
namespace Go.Proofs.YtagjjpmhacknpaaDoor
open Go.RowKit Go.Shelf
attribute [local go_sem] Oper.semAt_some
/-- Two names that are there have two ids. -/
theorem TI.id_ne {nn cnt : Nat} {C : Nat → List Ent} {F : List Nat} {L : List Bl} (I : TI nn C F cnt L) (hs : L.Pairwise (fun a b => a.1 < b.1)) {c k : Nat} (hc : c < nn) (hk : k < nn) {y e : Ent} (hy : y ∈ C c) (he : e ∈ C k) (hn : e.name ≠ y.name) : e.id ≠ y.id := fun hi => by
  obtain ⟨n1, _, h1⟩ := I.mem hc hy
  obtain ⟨n2, _, h2⟩ := I.mem hk he
  have h3 := srt_mem hs h2 h1 hi
  exact hn (congrArg (fun z => List.drop 8 z) (Prod.mk.inj h3).2)
theorem TI.far {nn cnt : Nat} {C : Nat → List Ent} {F : List Nat} {L : List Bl} (I : TI nn C F cnt L) {c k : Nat} (hc : c < nn) (hk : k < nn) (hkc : k ≠ c) {y e : Ent} (hy : y ∈ C c) (he : e ∈ C k) : e.name ≠ y.name := fun hn => hkc (by rw [← I.hash k hk e he, hn]; exact I.hash c hc y hy)
theorem nodup_mid {P R : List Ent} {y : Ent} (h : ((P ++ y :: R).map Ent.name).Nodup) : ∀ e ∈ P ++ R, e.name ≠ y.name := fun e he hn => by
  rw [List.map_append, List.map_cons, List.nodup_append] at h
  obtain ⟨_, h2, h3⟩ := h
  rw [List.nodup_cons] at h2
  rcases List.mem_append.1 he with he | he
  · exact h3 e.name (List.mem_map_of_mem he) y.name (by simp) hn
  · exact h2.1 (hn ▸ List.mem_map_of_mem he)
theorem lastId_mem {P : List Ent} (h : P ≠ []) : ∃ Q z, P = Q ++ [z] ∧ lastId P = z.id := by
  refine ⟨P.dropLast, P.getLast h, (List.dropLast_concat_getLast h).symm, ?_⟩
  conv => lhs; rw [← List.dropLast_concat_getLast h]
  exact lastId_snoc _ _
/-- A name leaves: the block that named its block names what it named. -/
theorem TI.cut {nn cnt c : Nat} {C : Nat → List Ent} {F : List Nat} {L L' : List Bl} {P R : List Ent} {y : Ent} (I : TI nn C F (cnt + 1) L) (hs : L.Pairwise (fun a b => a.1 < b.1)) (hc : c < nn) (hC : C c = P ++ y :: R) (hkeep : ∀ b ∈ L, b.1 ≠ y.id → (P ≠ [] → b.1 ≠ lastId P) → b ∈ L') (hpred : ∀ Q z, P = Q ++ [z] → (z.id, blkE z.uses (headId R) z.name) ∈ L') :
    TI nn (upd C c (P ++ R)) (F.set c (headId (P ++ R))) cnt L' := by
  have hyC : y ∈ C c := by rw [hC]; simp
  have hnd := I.names c hc
  have hne := nodup_mid (by rw [← hC]; exact hnd)
  have hPC : ∀ e ∈ P ++ R, e ∈ C c := fun e he => by
    rw [hC]
    rcases List.mem_append.1 he with he | he <;> simp [he]
  have hlim := I.clim
  refine I.chain hc rfl (by rw [hC]; simp; omega) (by omega) ?_ (fun k hk hkc e he d hd => hkeep _ hd (I.id_ne hs hc hk hyC he (I.far hc hk hkc hyC he)) fun hP => ?_) (fun e he => I.hash c hc e (hPC e he)) ?_ (fun e he => I.small c hc e (hPC e he))
  · have hl := I.link c hc
    rw [hC] at hl
    by_cases hP : P = []
    · subst hP
      exact linked_mono hl.2 fun e he d hd => hkeep _ hd (I.id_ne hs hc hc hyC (hPC e he) (hne e he)) fun h => absurd rfl h
    · obtain ⟨Q, z, rfl, hz⟩ := lastId_mem hP
      have hzC : z ∈ C c := hPC z (by simp)
      have hnz : ∀ e ∈ Q ++ R, e.name ≠ z.name := fun e he => by
        have h := nodup_mid (P := Q) (R := y :: R) (y := z) (by rw [hC] at hnd; simpa using hnd)
        exact h e (by rcases List.mem_append.1 he with he | he <;> simp [he])
      have key : ∀ (Q' : List Ent), (∀ e ∈ Q', e ∈ C c ∧ e.name ≠ y.name ∧ e.name ≠ z.name) → linked L (Q' ++ z :: y :: R) → linked L' (Q' ++ z :: R) := fun Q' => by
        induction Q' with
        | nil =>
          intro _ h
          exact ⟨hpred Q z rfl, linked_mono h.2.2 fun e he d hd => hkeep _ hd (I.id_ne hs hc hc hyC (hPC e (by simp [he])) (hne e (by simp [he]))) fun _ => by rw [hz]; exact I.id_ne hs hc hc hzC (hPC e (by simp [he])) (hnz e (by simp [he]))⟩
        | cons q Q' ih =>
          intro hq h
          obtain ⟨q1, q2, q3⟩ := hq q (by simp)
          refine ⟨?_, ih (fun e he => hq e (List.mem_cons_of_mem _ he)) h.2⟩
          have he : headId (Q' ++ z :: R) = headId (Q' ++ z :: y :: R) := by cases Q' <;> rfl
          show (q.id, blkE q.uses (headId (Q' ++ z :: R)) q.name) ∈ _
          rw [he]
          exact hkeep _ h.1 (I.id_ne hs hc hc hyC q1 q2) fun _ => by rw [hz]; exact I.id_ne hs hc hc hzC q1 q3
      have e1 : Q ++ [z] ++ y :: R = Q ++ z :: y :: R := by simp
      have e2 : Q ++ [z] ++ R = Q ++ z :: R := by simp
      rw [e1] at hl
      rw [e2]
      exact key Q (fun e he => ⟨hPC e (by simp [he]), hne e (by simp [he]), hnz e (by simp [he])⟩) hl
  · obtain ⟨Q, z, rfl, hz⟩ := lastId_mem hP
    have hzC : z ∈ C c := hPC z (by simp)
    rw [hz]
    exact I.id_ne hs hc hk hzC he (I.far hc hk hkc hzC he)
  · rw [hC] at hnd
    rw [List.map_append, List.map_cons] at hnd
    rw [List.map_append]
    exact hnd.sublist (List.Sublist.append (List.Sublist.refl _) (List.sublist_cons_self _ _))
end Go.Proofs.YtagjjpmhacknpaaDoor

/- Package intern: unlink, both ways. -/
set_option maxRecDepth 100000
namespace Go.Proofs.YtagjjpmhacknpaaDoor
open Go.RowKit Go.Shelf
attribute [local go_sem] Oper.semAt_some
def lens (L : List Bl) : List (Nat × Nat) := L.map fun b => (b.1, b.2.length)
/-- What is left of the blocks when one has been unlinked. -/
structure Unl (L Lm : List Bl) (P R : List Ent) : Prop where
  keep : ∀ b ∈ L, (P ≠ [] → b.1 ≠ lastId P) → b ∈ Lm
  pred : ∀ Q z, P = Q ++ [z] → (z.id, blkE z.uses (headId R) z.name) ∈ Lm
  lens : lens Lm = lens L
end Go.Proofs.YtagjjpmhacknpaaDoor

/- Package intern: Drop. -/
set_option maxRecDepth 100000
namespace Go.Proofs.YtagjjpmhacknpaaDoor
open Go.RowKit Go.Shelf
attribute [local go_sem] Oper.semAt_some
end Go.Proofs.YtagjjpmhacknpaaDoor

/- Package intern: Drop, the last use. -/
set_option maxRecDepth 100000
namespace Go.Proofs.YtagjjpmhacknpaaDoor
open Go.RowKit Go.Shelf
attribute [local go_sem] Oper.semAt_some
theorem lens_split {L1 L2 : List Bl} {i : Nat} {d : List UInt8} {M : List Bl} (h : lens (L1 ++ (i, d) :: L2) = lens M) : ∃ M1 M2 b, M = M1 ++ (i, b) :: M2 ∧ b.length = d.length ∧ lens L1 = lens M1 ∧ lens L2 = lens M2 := by
  unfold lens at h
  rw [List.map_append, List.map_cons] at h
  obtain ⟨M1, M', rfl, h1, h2⟩ := List.map_eq_append_iff.1 h.symm
  obtain ⟨⟨j, b⟩, M2, rfl, h3, h4⟩ := List.map_eq_cons_iff.1 h2
  obtain ⟨rfl, h5⟩ := Prod.mk.inj h3
  exact ⟨M1, M2, b, rfl, h5, h1.symm, h4.symm⟩
theorem lens_srt {L M : List Bl} (h : lens L = lens M) (hs : M.Pairwise (fun a b => a.1 < b.1)) : L.Pairwise (fun a b => a.1 < b.1) := by
  have h1 : (lens M).Pairwise (fun a b => a.1 < b.1) := by
    unfold lens; rw [List.pairwise_map]; exact hs
  rw [← h] at h1
  unfold lens at h1
  rw [List.pairwise_map] at h1
  exact h1
end Go.Proofs.YtagjjpmhacknpaaDoor

/- Package intern: Cost. -/
set_option maxRecDepth 100000
namespace Go.Proofs.YtagjjpmhacknpaaDoor
open Go.RowKit Go.Shelf
attribute [local go_sem] Oper.semAt_some
end Go.Proofs.YtagjjpmhacknpaaDoor

/- Package intern: a table by its names. -/
set_option maxRecDepth 100000
namespace Go.Proofs.YtagjjpmhacknpaaDoor
open Go.RowKit Go.Shelf
attribute [local go_sem] Oper.semAt_some
def idl (E : List Ent) : List (Nat × Nat) := E.map fun e => (e.id, e.name.length + 8)
def costE (E : List Ent) : Nat := (E.map fun e => Ar.cost (e.name.length + 8)).sum
theorem costE_cons (e : Ent) (E : List Ent) : costE (e :: E) = Ar.cost (e.name.length + 8) + costE E := by simp [costE]
theorem costE_app (E M : List Ent) : costE (E ++ M) = costE E + costE M := by simp [costE]
theorem sumC_lens (L : List Bl) : sumC L = ((lens L).map fun p => Ar.cost p.2).sum := by
  unfold sumC lens
  rw [List.map_map]
  rfl
theorem costE_idl (E : List Ent) : costE E = ((idl E).map fun p => Ar.cost p.2).sum := by
  unfold costE idl
  rw [List.map_map]
  rfl
/-- Names that stand in one place of one chain are put in another's place. -/
theorem mem_put {nn c : Nat} {C : Nat → List Ent} {E1 E2 P R : List Ent} {y : Ent} (M : List Ent) (hm : ∀ e, e ∈ E1 ++ y :: E2 ↔ ∃ k, k < nn ∧ e ∈ C k) (hid : ((E1 ++ y :: E2).map Ent.id).Nodup) (hc : c < nn) (hC : C c = P ++ y :: R) (hnd : ((C c).map Ent.name).Nodup) (hfar : ∀ k, k < nn → k ≠ c → ∀ e ∈ C k, e.name ≠ y.name) :
    ∀ e, e ∈ E1 ++ (M ++ E2) ↔ ∃ k, k < nn ∧ e ∈ upd C c (P ++ (M ++ R)) k := fun e => by
  have hne : ∀ e ∈ E1 ++ E2, e ≠ y := fun e he hy => by
    subst hy
    rw [List.map_append, List.map_cons, List.nodup_append] at hid
    obtain ⟨_, h2, h3⟩ := hid
    rw [List.nodup_cons] at h2
    rcases List.mem_append.1 he with he | he
    · exact h3 e.id (List.mem_map_of_mem he) e.id (by simp) rfl
    · exact h2.1 (List.mem_map_of_mem he)
  have hmid := nodup_mid (by rw [← hC]; exact hnd)
  constructor
  · intro he
    by_cases hM : e ∈ M
    · exact ⟨c, hc, by rw [upd_same]; simp [hM]⟩
    · have he1 : e ∈ E1 ++ E2 := by simpa [hM] using he
      obtain ⟨k, hk, hek⟩ := (hm e).1 (by rcases List.mem_append.1 he1 with h | h <;> simp [h])
      by_cases hkc : k = c
      · subst hkc
        rw [hC] at hek
        refine ⟨k, hk, ?_⟩
        rw [upd_same]
        rcases List.mem_append.1 hek with h | h
        · simp [h]
        · rcases List.mem_cons.1 h with h | h
          · exact absurd h (hne e he1)
          · simp [h]
      · exact ⟨k, hk, by rw [upd_other hkc]; exact hek⟩
  · rintro ⟨k, hk, hek⟩
    by_cases hM : e ∈ M
    · simp [hM]
    · have key : e ∈ E1 ++ y :: E2 → e ≠ y → e ∈ E1 ++ (M ++ E2) := fun h h' => by
        rcases List.mem_append.1 h with h | h
        · simp [h]
        · rcases List.mem_cons.1 h with h | h
          · exact absurd h h'
          · simp [h]
      by_cases hkc : k = c
      · subst hkc
        rw [upd_same] at hek
        have h1 : e ∈ P ++ R := by simpa [hM] using hek
        exact key ((hm e).2 ⟨k, hk, by rw [hC]; rcases List.mem_append.1 h1 with h | h <;> simp [h]⟩) fun h => hmid e h1 (by rw [h])
      · rw [upd_other hkc] at hek
        exact key ((hm e).2 ⟨k, hk, hek⟩) fun h => hfar k hk hkc e hek (by rw [h])
/-- The least id that no name has. -/
def LeastE (E : List Ent) (i : Nat) : Prop := 1 ≤ i ∧ (∀ e ∈ E, e.id ≠ i) ∧ ∀ j, 1 ≤ j → j < i → ∃ e ∈ E, e.id = j
end Go.Proofs.YtagjjpmhacknpaaDoor

/- Package intern: each call, by names. -/
set_option maxRecDepth 100000
namespace Go.Proofs.YtagjjpmhacknpaaDoor
open Go.RowKit Go.Shelf
attribute [local go_sem] Oper.semAt_some
/-- What a call leaves alone. -/
structure TK (x : Nat → Prop) (t : TB) (n0 : Nat) (w w' : World) : Prop where
  below : Below n0 w w'
  own : ∀ k, x k → k ≠ t.T → k ≠ t.F → w'.heap[k]? = w.heap[k]?
theorem TK.trans {x : Nat → Prop} {t : TB} {n0 : Nat} {w w1 w2 : World} (h : TK x t n0 w w1) (k : TK x t n0 w1 w2) : TK x t n0 w w2 := ⟨h.below.trans k.below, fun j hj h1 h2 => (k.own j hj h1 h2).trans (h.own j hj h1 h2)⟩
theorem TK.refl (x : Nat → Prop) (t : TB) (n0 : Nat) (w : World) : TK x t n0 w w := ⟨Below.refl _ w, fun _ _ _ _ => rfl⟩
theorem LX.tk {x : Nat → Prop} {t : TB} {B : Nat} {L : List Bl} {n0 : Nat} {w w' : World} (h : LX x t.A B L n0 w w') : TK x t n0 w w' := ⟨h.below, fun k hk _ _ => h.own k hk⟩
end Go.Proofs.YtagjjpmhacknpaaDoor

/- awake of chapter 7's laws: its calls. -/
set_option maxRecDepth 100000
namespace Go.Proofs.YtagjjpmhacknpaaDoor
open Go.RowKit Go.Shelf
attribute [local go_sem] Oper.semAt_some
def xt (t : TB) (k : Nat) : Prop := k = t.F ∨ k = t.T
def nmA : List UInt8 := [1, 97, 0]
end Go.Proofs.YtagjjpmhacknpaaDoor

/- awake of chapter 7's laws is true. -/
set_option maxRecDepth 100000
namespace Go.Proofs.YtagjjpmhacknpaaDoor
open Go.RowKit Go.Shelf
attribute [local go_sem] Oper.semAt_some
end Go.Proofs.YtagjjpmhacknpaaDoor

/- InternFull: its names, and its calls. -/
set_option maxRecDepth 100000
namespace Go.Proofs.YtagjjpmhacknpaaDoor
open Go.RowKit Go.Shelf
attribute [local go_sem] Oper.semAt_some
def fnm (i : Nat) : List UInt8 := [2, UInt8.ofNat (97 + i / 26), UInt8.ofNat (97 + i % 26), 0]
def fullE (k : Nat) : List Ent := (List.range (min k 32)).map fun i => ⟨i + 1, 1, fnm i⟩
theorem fnm_ok : ∀ i : Fin 60, Nm.valid (fnm i.1) = true ∧ Nm.fold (fnm i.1) = fnm i.1 ∧ (∀ e ∈ fullE i.1, e.name ≠ fnm i.1) ∧ costE (fullE i.1) = 32 * min i.1 32 := by decide +kernel
theorem fullE_len (k : Nat) : (fullE k).length = min k 32 := by simp [fullE]
theorem fullE_lt {k : Nat} (h : k < 32) : fullE (k + 1) = fullE k ++ [⟨k + 1, 1, fnm k⟩] := by
  unfold fullE
  rw [Nat.min_eq_left (by omega), Nat.min_eq_left (by omega), List.range_succ, List.map_append]
  rfl
theorem fullE_ge {k : Nat} (h : 32 ≤ k) : fullE (k + 1) = fullE k := by
  unfold fullE
  rw [Nat.min_eq_right (by omega), Nat.min_eq_right (by omega)]
theorem LeastE.uniq {E : List Ent} {i j : Nat} (h : LeastE E i) (k : LeastE E j) : i = j := by
  rcases Nat.lt_trichotomy i j with h1 | h1 | h1
  · obtain ⟨e, he, e1⟩ := k.2.2 i h.1 h1
    exact absurd e1 (h.2.1 e he)
  · exact h1
  · obtain ⟨e, he, e1⟩ := h.2.2 j k.1 h1
    exact absurd e1 (k.2.1 e he)
theorem full_least {k : Nat} (h : k ≤ 32) : LeastE (fullE k) (k + 1) := by
  unfold fullE
  rw [Nat.min_eq_left h]
  refine ⟨by omega, fun e he => ?_, fun j h1 h2 => ?_⟩
  · obtain ⟨i, hi, rfl⟩ := List.mem_map.1 he
    rw [List.mem_range] at hi
    show i + 1 ≠ k + 1
    omega
  · exact ⟨_, List.mem_map.2 ⟨j - 1, List.mem_range.2 (by omega), rfl⟩, by show j - 1 + 1 = j; omega⟩
def fullT (k : Nat) : List Ent := (fullE k).tail
theorem fullE_head {k : Nat} (h : 1 ≤ k) : fullE k = ⟨1, 1, fnm 0⟩ :: fullT k := by
  unfold fullT fullE
  obtain ⟨m, hm⟩ : ∃ m, min k 32 = m + 1 := ⟨min k 32 - 1, by omega⟩
  rw [hm, List.range_succ_eq_map]
  rfl
def nmzz : List UInt8 := [2, 122, 122, 0]
theorem fullT_ok : ∀ i : Fin 61, (∀ e ∈ fullT i.1, e.name ≠ nmzz) ∧ costE (fullT i.1) ≤ 992 := by decide +kernel
theorem fullT_len {k : Nat} (h : 1 ≤ k) : (fullT k).length + 1 = min k 32 := by
  have := congrArg List.length (fullE_head h)
  rw [fullE_len, List.length_cons] at this
  exact this.symm
theorem fullT_cost {k : Nat} (h : 1 ≤ k) (hk : k < 60) : costE (fullT k) + 32 = 32 * min k 32 := by
  have h1 := (fnm_ok ⟨k, hk⟩).2.2.2
  simp only at h1
  rw [fullE_head h, costE_cons] at h1
  have h2 : Ar.cost ((⟨1, 1, fnm 0⟩ : Ent).name.length + 8) = 32 := by decide
  omega
end Go.Proofs.YtagjjpmhacknpaaDoor

/- The document's own table of names, in memory: find, At. -/
set_option maxRecDepth 100000
namespace Go.Proofs.YtagjjpmhacknpaaDoor
open Go Go.RowKit Go.Shelf
attribute [local go_sem] Oper.semAt_some
def encE (e : Ent) : List Value := [.int .i64 (e.id : Int), .string ⟨e.name.toArray⟩, .int .i64 (e.uses : Int)]
theorem encE_len (e : Ent) : (encE e).length = 3 := rfl
theorem encE_one (e : Ent) : ∀ u ∈ encE e, u.oneCell' = true := fun u hu => by
  simp only [encE, List.mem_cons, List.not_mem_nil, or_false] at hu
  rcases hu with rfl | rfl | rfl <;> rfl
def TAtRet (E : List Ent) (z : Int) (w : World) (e : Ending) (w' : World) : Prop := ((∃ (i : Nat) (hi : i < E.length), e = .returned (.int .i64 (i : Int)) ∧ (E[i].id : Int) = z) ∨ (e = .returned (.int .i64 (-1)) ∧ ∀ y ∈ E, (y.id : Int) ≠ z)) ∧ w = w'
def TFindRet (E : List Ent) (l : List UInt8) (w : World) (e : Ending) (w' : World) : Prop := ((∃ (i : Nat) (hi : i < E.length), e = .returned (.int .i64 (i : Int)) ∧ E[i].name = l) ∨ (e = .returned (.int .i64 (-1)) ∧ ∀ y ∈ E, y.name ≠ l)) ∧ w = w'
end Go.Proofs.YtagjjpmhacknpaaDoor
