/- 4 texts put together: Orda, Ordb, Mdt, Upb. -/
import Derived.Test.YtchlemajppnehaaJW14
import Derived.Test.YtchlemajppnehaaJW17
import Derived.Test.YtchlemajppnehaaJW19
import Derived.Test.YtchlemajppnehaaJW24
import Derived.Test.YtchlemajppnehaaJW25
/- order of the law's own: what lies in its box. -/
set_option maxRecDepth 100000
namespace Go.Proofs.Ytchlemajppnehaa
open Go Go.RowKit Go.Shelf Go.Maps
theorem ownK_lower {α : Type} {enc : α → List Value} {k : Nat} {e : TypeId} {base base' : Nat} {v : Value} {l : List α} {W : World} (h : OwnK enc k e base v l W) (hb : base' ≤ base) : OwnK enc k e base' v l W :=
  ⟨h.1, h.2.imp id fun ⟨g, cap, cur, h1, h2, h3⟩ => ⟨g, cap, cur, h1, Nat.le_trans hb h2, h3⟩⟩
/-- What a loop over a structure has gathered in the box B: pre, in memory of its own, apart from the structure's blocks s; w0: where it began. -/
structure Gath {α : Type} (enc : α → List Value) (k : Nat) (te ts : TypeId) (f : Nat → Prop) (w0 : World) (M B : Nat) (pre : List α) (s : Nat → Prop) (W : World) : Prop where
  ex : ∃ v, Blk W B [v] ts ∧ OwnK enc k te M v pre W ∧ ∀ g, v.ownBlock = some g → ¬ s g
  out : ¬ s B ∧ w0.heap.size ≤ B ∧ w0.heap.size ≤ M
  tr : Trn f w0 W
  sub : ∀ k, s k → grow f w0 W k
section
variable {α : Type} {enc : α → List Value} {k : Nat} {te ts : TypeId} {f : Nat → Prop} {w0 : World} {M B : Nat} {pre : List α} {s s' : Nat → Prop} {W W' : World}
theorem Gath.move (h : Gath enc k te ts f w0 M B pre s W) (hm : MvL s W s' W') : Gath enc k te ts f w0 M B pre s' W' := by
  obtain ⟨v, h1, h2, h3⟩ := h.ex
  obtain ⟨t, hs⟩ := hm
  refine ⟨⟨v, h1.kept (t.block _ h1.lt h.out.1), own_kept h2 (fun g e => ?_), fun g e => ?_⟩, ⟨fun e => ?_, h.out.2⟩, h.tr.trans (t.mono fun b _ e => h.sub b e), fun b e => ?_⟩
  · obtain ⟨c, hc⟩ := own_blk' h2 e
    exact t.block _ hc.lt (h3 g e)
  · rw [hs]
    obtain ⟨c, hc⟩ := own_blk' h2 e
    rintro (e2 | e2)
    · exact h3 g e e2
    · have := hc.lt; omega
  · rw [hs] at e
    have := h1.lt
    rcases e with e | e
    · exact h.out.1 e
    · omega
  · rw [hs] at e
    have h1 := h.tr.size
    have h2 := t.size
    rcases e with e | e
    · rcases h.sub b e with e | e
      · exact .inl e
      · exact .inr ⟨e.1, by omega⟩
    · exact .inr ⟨by omega, e.2⟩
theorem Gath.book (l : Nat) (o o' : Obj) (h : Gath enc k te ts f w0 M B pre s W) (hl : W.heap[l]? = some o) (hk : isBook o = true) (h0 : w0.heap.size ≤ l) : Gath enc k te ts f w0 M B pre s (W.putObj l o') := by
  obtain ⟨v, h1, h2, h3⟩ := h.ex
  have hz : (W.putObj l o').heap.size = W.heap.size := by simp [World.putObj]
  refine ⟨⟨v, h1.kept (blk_book h1 hl hk o'), own_book h2 hl hk o', h3⟩, h.out, ⟨h.tr.os, h.tr.tape, h.tr.output, by rw [hz]; exact h.tr.size, fun b hb hf => (World.putObj_heap_other (by omega)).trans (h.tr.block b hb hf), fun b o2 hb hk2 => ?_⟩, fun b e => ?_⟩
  · have : b < w0.heap.size := (Array.getElem?_eq_some_iff.1 hb).1
    exact (World.putObj_heap_other (by omega)).trans (h.tr.book b o2 hb hk2)
  · have := h.sub b e
    unfold grow at this ⊢
    rw [hz]
    exact this
theorem Gath.own {w : World} (h0 : w0.heap.size ≤ w.heap.size) : OwnBk w.heap.size (fun pre W => Gath enc k te ts f w0 M B pre s W) := by
  intro pre W W' row h hg hr
  obtain ⟨v, h1, h2, h3⟩ := h.ex
  have hb : ∀ k cs t, Blk W k cs t → some k ≠ row := fun k cs t hB e => by
    obtain ⟨_, o, ho, hk⟩ := hr k e.symm
    rw [show W.heap[k]? = _ from hB] at ho
    cases ho
    cases hk
  have hlow : ∀ k, k < w0.heap.size → some k ≠ row := fun k hk e => by have := (hr k e.symm).1; omega
  have hz := h.tr.size
  have hz2 := hg.size
  refine ⟨⟨v, h1.kept (hg.block _ h1.lt (hb _ _ _ h1)), own_kept h2 (fun g e => ?_), h3⟩, h.out, ⟨hg.os.trans h.tr.os, hg.tape.trans h.tr.tape, hg.output.trans h.tr.output, by omega, fun b hb2 hf => (hg.block _ (by omega) (hlow b hb2)).trans (h.tr.block b hb2 hf), fun b o ho hk => ?_⟩, fun b e => ?_⟩
  · obtain ⟨c, hc⟩ := own_blk' h2 e
    exact hg.block _ hc.lt (hb _ _ _ hc)
  · have hb2 : b < w0.heap.size := (Array.getElem?_eq_some_iff.1 ho).1
    exact (hg.block _ (by omega) (hlow b hb2)).trans (h.tr.book b o ho hk)
  · rcases h.sub b e with e | e
    · exact .inl e
    · exact .inr ⟨e.1, by omega⟩
/-- A box that stays, beside. -/
def Aside (b : Nat) (cs : List Value) (t : TypeId) (s : Nat → Prop) (W : World) : Prop := Blk W b cs t ∧ ¬ s b
theorem Aside.move {b : Nat} {cs : List Value} {t : TypeId} (h : Aside b cs t s W) (hm : MvL s W s' W') : Aside b cs t s' W' := by
  obtain ⟨t1, hs⟩ := hm
  have := h.1.lt
  refine ⟨h.1.kept (t1.block _ h.1.lt h.2), ?_⟩
  rw [hs]
  rintro (e | e)
  · exact h.2 e
  · omega
theorem Aside.own {b : Nat} {cs : List Value} {t : TypeId} {M2 : Nat} : OwnBk (β := List α) M2 (fun _ W => Aside b cs t s W) := by
  intro pre W W' row h hg hr
  refine ⟨h.1.kept (hg.block _ h.1.lt fun e => ?_), h.2⟩
  obtain ⟨_, o, ho, hk⟩ := hr b e.symm
  rw [show W.heap[b]? = _ from h.1] at ho
  cases ho
  cases hk
/-- One more is gathered: a literal of it, append, and the store into the box. -/
theorem Gath.push {M2 : Nat} {v : Value} {x : α} {o : Obj} {g cap n : Nat} {w1 : World} (h : Gath enc k te ts f w0 M B pre s W) (hv : Blk W B [v] ts) (h2 : OwnK enc k te M v pre W) (h3 : ∀ g, v.ownBlock = some g → ¬ s g) (hts : ts ≠ te) (hs : ∀ b, s b → b < W.heap.size)
    (ho : OwnK enc k te M (.slice (some ⟨g, 0, none⟩) n cap) (pre ++ [x]) w1) (hg : (W.alloc o).grownBy w1 v.ownBlock) (hgg : v.ownBlock = some g ∨ g = (W.alloc o).heap.size) (hW : W' = w1.setCell ⟨B, 0, none⟩ (.slice (some ⟨g, 0, none⟩) n cap)) :
    Gath enc k te ts f w0 M B (pre ++ [x]) s W' ∧ KeepsBk M2 W W' ∧ (∀ b, s b → W'.heap[b]? = W.heap[b]?) ∧ W.heap.size ≤ W'.heap.size ∧ (∀ b, b < M → b < W.heap.size → b ≠ B → W'.heap[b]? = W.heap[b]?) ∧ Blk w1 B [v] ts ∧ Blk W' B [.slice (some ⟨g, 0, none⟩) n cap] ts := by
  subst hW
  have hz : (W.alloc o).heap.size = W.heap.size + 1 := World.size_alloc _ _
  have hz1 := hg.size
  have hz' : (w1.setCell ⟨B, 0, none⟩ (.slice (some ⟨g, 0, none⟩) n cap)).heap.size = w1.heap.size := by simp [World.setCell]
  have hBl := hv.lt
  have hne : v.ownBlock ≠ some B := fun e => by
    obtain ⟨c, hc⟩ := own_blk' h2 e
    exact hv.ne hc hts rfl
  have hst : ∀ b, b ≠ B → (w1.setCell ⟨B, 0, none⟩ (.slice (some ⟨g, 0, none⟩) n cap)).heap[b]? = w1.heap[b]? := fun b hb => Below.heap_setCell w1 ⟨B, 0, none⟩ _ b hb
  have hkeep : ∀ b, b < W.heap.size → v.ownBlock ≠ some b → w1.heap[b]? = W.heap[b]? := fun b hb hn => (hg.block b (by omega) (fun e => hn e.symm)).trans (Below.heap_alloc W o b hb)
  have hv1 : Blk w1 B [v] ts := hv.kept (hkeep B hBl hne)
  have hgB : g ≠ B := by
    rcases hgg with e | e
    · exact fun e2 => hne (e2 ▸ e)
    · omega
  have hsame : ∀ b, s b → (w1.setCell ⟨B, 0, none⟩ (.slice (some ⟨g, 0, none⟩) n cap)).heap[b]? = W.heap[b]? := fun b hb => (hst b (fun e => h.out.1 (e ▸ hb))).trans (hkeep b (hs b hb) (fun e => h3 b e hb))
  have hblk : ∀ b, b < M → b < W.heap.size → b ≠ B → (w1.setCell ⟨B, 0, none⟩ (.slice (some ⟨g, 0, none⟩) n cap)).heap[b]? = W.heap[b]? := fun b hM hb hB => (hst b hB).trans (hkeep b hb fun e => by
    have := own_low h2 e
    omega)
  have hbook : ∀ b o, W.heap[b]? = some o → isBook o = true → (w1.setCell ⟨B, 0, none⟩ (.slice (some ⟨g, 0, none⟩) n cap)).heap[b]? = some o := fun b o hb hk => by
    have hlt : b < W.heap.size := (Array.getElem?_eq_some_iff.1 hb).1
    refine ((hst b fun e => ?_).trans (hkeep b hlt fun e => ?_)).trans hb
    · subst e
      rw [show W.heap[b]? = _ from hv] at hb
      cases hb
      cases hk
    · obtain ⟨c, hc⟩ := own_blk' h2 e
      rw [show W.heap[b]? = _ from hc] at hb
      cases hb
      cases hk
  have hzz := h.tr.size
  refine ⟨⟨⟨_, hv1.set 0 _, own_kept ho (fun b e => by cases e; exact hst _ hgB), fun b e => ?_⟩, h.out, ⟨hg.os.trans h.tr.os, hg.tape.trans h.tr.tape, hg.output.trans h.tr.output, by omega, fun b hb hf => ?_, fun b o2 hb hk => hbook b o2 (h.tr.book b o2 hb hk) hk⟩, fun b e => ?_⟩, ⟨by omega, fun b o2 _ hb hk => hbook b o2 hb hk⟩, hsame, by omega, hblk, hv1, hv1.set 0 _⟩
  · cases e
    rcases hgg with e | e
    · exact h3 _ e
    · intro e2
      have h9 : g < W.heap.size := hs _ e2
      omega
  · have hBb := h.out.2.1
    have hMM := h.out.2.2
    refine ((hst b (by omega)).trans (hkeep b (by omega) fun e => ?_)).trans (h.tr.block b hb hf)
    have := own_low h2 e
    omega
  · rcases h.sub b e with e | e
    · exact .inl e
    · exact .inr ⟨e.1, by omega⟩
end
end Go.Proofs.Ytchlemajppnehaa

/- order of the law's own: who would go first, as far as asked. -/
set_option maxRecDepth 100000
namespace Go.Proofs.Ytchlemajppnehaa
open Go Go.RowKit Go.Shelf Go.Maps
attribute [local go_sem] Oper.semAt_some
theorem eql_nilO (W : World) (f B : Nat) : (binOp .eql 88 (.func (.func f) #[] #[.pointer (some ⟨B, 0, none⟩)]) .nilFunc).run Try.prog W = .ok (.bool false) W := by
  kernel_rfl
/-- A list as far as asked: below 1: all. -/
def cutAt {α : Type} (mo : Int) (T : List α) : List α := if 1 ≤ mo then T.take mo.toNat else T
section
variable {X : Nat} {most : Int} {P Q : List Int} {N : Nat} {f : Nat → Prop} {w : World}
/-- What order makes. -/
def OrderRet (X : Nat) (most : Int) (P Q : List Int) (N : Nat) (f : Nat → Prop) (w : World) (mo : Int) (e : Ending) (w' : World) : Prop :=
  ∃ v s, e = .returned v ∧ OwnK encZ 1 3 w.heap.size v (cutAt mo (P ++ Q)) w' ∧ LV X most P Q N s w' ∧ Trn f w w' ∧ (∀ k, s k → grow f w w' k) ∧ ∀ g, v.ownBlock = some g → ¬ s g
abbrev tSl : TypeId := 22
set_option maxHeartbeats 16000000 in
theorem order_any (h : LV X most P Q N f w) (hN : N < 80000) (mo : Int) :
    Calls Try.prog 37 #[.pointer (some ⟨X, 0, none⟩), .int .i64 mo] w (OrderRet X most P Q N f w mo) := by
  refine (callsIn_wide (n := 20)).1 ?_
  refine callsIn_of_wp_marks Try.func37 rfl trivial ?_ rfl
  simp only [Try.ntmps37, List.size_toArray, List.length_cons, List.length_nil, Nat.reduceAdd, Nat.reduceSub, Array.replicate_succ, Array.replicate_zero, List.push_toArray, List.append_toArray, List.nil_append, List.cons_append]
  refine wpIn_wide.2 ?_
  have hnil := eql_nilO
  have HLEN := Lib.hid (show (P ++ Q).length < 100000 by have := h.len_le; rw [List.length_append]; omega)
  go_wp2_with (go_at_call 65; refine (lorder_any _ _).mono ?_; rintro e w' ⟨rfl, rfl⟩)
  have hfb := h.fb
  obtain ⟨n0, hn0⟩ : ∃ n0, w.heap.size = n0 := ⟨_, rfl⟩
  obtain ⟨W1, hW1⟩ : ∃ W1, (w.alloc (.cells #[.int .i64 mo] 3)).alloc (.cells #[.slice none 0 0] tSl) = W1 := ⟨_, rfl⟩
  obtain ⟨W2, hW2⟩ : ∃ W2, W1.alloc (.cells #[.pointer (some ⟨X, 0, none⟩)] 44) = W2 := ⟨_, rfl⟩
  have s1 : W1.heap.size = w.heap.size + 2 := by rw [← hW1, World.size_alloc, World.size_alloc]
  have s2 : W2.heap.size = w.heap.size + 3 := by rw [← hW2, World.size_alloc, s1]
  have B2 : Below w.heap.size w W2 := by rw [← hW2, ← hW1]; exact (((Below.refl _ _).alloc (Nat.le_refl _) _).alloc (by simp) _).alloc (by rw [World.size_alloc, World.size_alloc]; omega) _
  have k0 : Blk W2 w.heap.size [.int .i64 mo] 3 := by rw [← hW2, ← hW1]; exact ((Blk.new w _ _).alloc _).alloc _
  have k1 : Blk W2 (w.heap.size + 1) [.slice none 0 0] tSl := by
    rw [← hW2, ← hW1]
    have := Blk.new (w.alloc (.cells #[.int .i64 mo] 3)) [.slice none 0 0] tSl
    rw [World.size_alloc] at this
    exact this.alloc _
  have k2 : Blk W2 (w.heap.size + 1 + 1) [.pointer (some ⟨X, 0, none⟩)] 44 := by rw [← hW2, show w.heap.size + 1 + 1 = W1.heap.size by rw [s1]]; exact Blk.new _ _ _
  rw [hW1, hW2]
  have hV2 : LV X most P Q N f W2 := h.below B2
  have G0 : Gath encZ 1 3 tSl f w (w.heap.size + 2) (w.heap.size + 1) [] f W2 := ⟨⟨_, k1, ownK_nil _ _ _ _ _, fun g e => by cases e⟩, ⟨fun e => by have := hfb _ e; omega, by omega, by omega⟩, Trn.of_below B2, fun b e => .inl e⟩
  have A0 : Aside w.heap.size [.int .i64 mo] 3 f W2 := ⟨k0, fun e => by have := hfb _ e; omega⟩
  clear hW1 hW2 s1 k0 k1 h hfb hnil
  have HN0 := Lib.hid hn0
  rw [hn0] at s2 B2 k2 G0 A0 ⊢
  have HS2 := Lib.hid s2
  clear hn0 s2
  have hseq : SeqZ Fence.wide (20 - 1) Try.prog 80 #[.pointer (some ⟨n0 + 1 + 1, 0, none⟩)] encK (fun W => Blk W (n0 + 1 + 1) [.pointer (some ⟨X, 0, none⟩)] 44) (LV X most P Q N) (UL X most P Q N) MvL (P ++ Q) f :=
    fun l C Cx W hz hV hC hCx h0 hY => lorder_seq (by omega) hN hV hz C Cx hC hCx h0 hY
  refine (wpIn_wide (n := 20)).1 ?_
  refine wpIn_rangeFunc_Z ?h1 ?h2 (gf := 80) (lb := #[.pointer (some ⟨n0 + 1 + 1, 0, none⟩)]) ?h3 ?h4 ?h5
    hseq ?h6 ?h7 ?h8 ?h9 ?h10 ?h11 ?h12
    (fun pre s W => Gath encZ 1 3 tSl f w (n0 + 2) (n0 + 1) pre s W ∧ Aside n0 [.int .i64 mo] 3 s W ∧ (mo < 1 ∨ (pre.length : Int) < mo))
    (fun c pre s W => c = .exit 0 ∧ Gath encZ 1 3 tSl f w (n0 + 2) (n0 + 1) pre s W ∧ (pre.length : Int) = mo ∧ 1 ≤ pre.length)
    ?h13 ?h14 ?h15 ?h16 hV2 ?h17 (fun x => { tmps := #[.pointer (some ⟨X, 0, none⟩), .int .i64 mo, undef, .pointer (some ⟨n0, 0, none⟩), .slice none 0 0, .pointer (some ⟨n0 + 1, 0, none⟩), .func (.func 80) #[] #[.pointer (some ⟨n0 + 1 + 1, 0, none⟩)], .int .i64 x, .pointer (some ⟨X, 0, none⟩), .func (.func 80) #[] #[.pointer (some ⟨n0 + 1 + 1, 0, none⟩)], .func (.func 80) #[] #[.pointer (some ⟨n0 + 1 + 1, 0, none⟩)], .bool false, .func (.func 80) #[] #[.pointer (some ⟨n0 + 1 + 1, 0, none⟩)], .int .i64 x, undef, undef, undef, undef, undef, undef, undef, undef, undef], defers := [] }) ?assign ?body ?done ?stop
  case h1 => rfl
  case h2 => omega
  case h3 => rfl
  case h4 => trivial
  case h5 => exact enters_of Try.func80 (by kernel_rfl) rfl
  case h6 => exact fun W o h => h.alloc o
  case h7 => exact k2
  case h8 => exact fun s W o h => h.below ((Below.refl _ _).alloc (Nat.le_refl _) _)
  case h9 => exact LV.book
  case h10 => exact fun t R => UL.book
  case h11 => exact fun s W s' W' hm k o ho hk => hm.1.book k o ho hk
  case h12 => exact fun _ => rfl
  case h13 => exact fun s pre X Y row h hg hr => ⟨Gath.own (by have := B2.size; omega) pre X Y row h.1 hg hr, Aside.own pre X Y row h.2.1 hg hr, h.2.2⟩
  case h14 => exact fun c s pre X Y row h hg hr => ⟨h.1, Gath.own (by have := B2.size; omega) pre X Y row h.2.1 hg hr, h.2.2⟩
  case h15 => exact fun pre s s' X Y h hm => ⟨h.1.move hm, h.2.1.move hm, h.2.2⟩
  case h16 => exact fun c pre s s' X Y h hm => ⟨h.1, h.2.1.move hm, h.2.2⟩
  case h17 => exact ⟨G0, A0, by simp; omega⟩
  case assign =>
    intro l x W K hK
    unfold encK
    clear hseq hV2 G0 A0 B2 k2
    gi_wp2
    exact hK

  case body =>
    rintro l t pre x R s W hT hU ⟨hG, hA, hc⟩
    obtain ⟨v, hv, ho, hvs⟩ := hG.ex
    obtain ⟨ao, cap, rfl, _⟩ := ownK_form ho
    have hPl : pre.length < (P ++ Q).length := by rw [← hT]; simp
    have hPn : (P ++ Q).length < 100000 := HLEN.out
    have hUf := hU.fb
    obtain ⟨k, hk⟩ : ∃ k, pre.length = k := ⟨_, rfl⟩
    have c5 := hv.cell (i := 0) rfl
    have c3 := hA.1.cell (i := 0) rfl
    have f5 := hv.frozen 0
    rw [hk] at c5 hv ho hvs hc
    have HU := Lib.hid hU
    have HG := Lib.hid hG
    have HA := Lib.hid hA
    have HV := Lib.hid hv
    have HO := Lib.hid ho
    have HVS := Lib.hid hvs
    have HUF := Lib.hid hUf
    have hM2 : ∀ o, n0 + 2 ≤ (W.alloc o).heap.size := fun o => by have := hv.lt; rw [World.size_alloc]; omega
    have hk9 : k < 100000 := by omega
    have HKL := Lib.hid hk
    clear hU hG hA hv ho hvs hUf hk hseq hV2 G0 A0 B2 k2 hPl hPn hT
    by_cases hm : (k : Int) + 1 = mo
    all_goals gi_wp2_with (gi_at_builtin; (
     refine wpListIn_apK encZ_len (by decide) encZ_one (x := fun _ => True) Try.underlying22 infoInt rfl (by decide) rfl _ _ rfl rfl (n0 + 2) (.slice ao k cap) pre rfl (ownK_alloc HO.out _) (.slice (some ⟨W.heap.size, 0, none⟩) 1 1) [x] (by simp) rfl (RK.oneN (enc := encZ) x 3 _ _ (by simp) _ rfl) (by rw [HKL.out]; simp; omega) (hM2 _) ?_
     intro g cp w1 ho1 hg1 hl1
     rw [List.length_append, List.length_singleton, HKL.out] at ho1
     rw [List.length_append, List.length_singleton, HKL.out]
     have P := Gath.push (M2 := W2.heap.size) HG.out HV.out HO.out HVS.out (by decide) HUF.out ho1 hg1 hl1 rfl
     obtain ⟨G3, P⟩ := P
     obtain ⟨K3, P⟩ := P
     obtain ⟨S3, Z3, L3, b1, b3⟩ := P
     have d5 := b1.cell (i := 0) rfl
     have d6 := b1.frozen 0
     have d7 := b3.cell (i := 0) rfl
     have d8 := HA.out.1.kept (L3 n0 (by omega) HA.out.1.lt (by omega))
     have d9 := d8.cell (i := 0) rfl
     have HA3 := Lib.hid (show Aside n0 [.int .i64 mo] 3 s _ from ⟨d8, HA.out.2⟩)
     have HG3 := Lib.hid G3
     have HK3 := Lib.hid K3
     have HS3 := Lib.hid S3
     have HZ3 := Lib.hid Z3
     clear G3 K3 S3 Z3 L3 b1 b3 d8
     clear c5 c3 f5
     clear ho1 hg1 hl1
     ))
    · refine ⟨HK3.out, s, HU.out.away HS3.out HZ3.out, rfl, HG3.out, ?_, ?_⟩
      · rw [List.length_append, List.length_singleton, HKL.out]
        omega
      · rw [List.length_append, List.length_singleton]
        omega
    · refine ⟨HK3.out, s, HU.out.away HS3.out HZ3.out, HG3.out, HA3.out, ?_⟩
      rw [List.length_append, List.length_singleton, HKL.out]
      omega
  case done =>
    rintro D s W hD hV ⟨hG, _, hc⟩ hK
    obtain ⟨v, hv, ho, hvs⟩ := hG.ex
    have c5 := hv.cell (i := 0) rfl
    have HG := Lib.hid hG
    have HV := Lib.hid hV
    have HO := Lib.hid ho
    have HVS := Lib.hid hvs
    have HK := Lib.hid hK
    have HD := Lib.hid hD
    have HC := Lib.hid hc
    have hbk : isBook (.deferred (some [])) = true := rfl
    clear hG hV hv ho hvs hK hD hc hseq hV2 G0 A0 B2 k2
    go_wp2
    refine ⟨by simp, .inl ⟨_, _, rfl, run_takeDeferred HK.out, ?_⟩⟩
    refine ⟨v, by simp [results, Try.results37, go_sem], ?_⟩
    have hd := HD.out
    rw [HS2.out] at hd
    have hcut : cutAt mo (P ++ Q) = P ++ Q := by
      unfold cutAt
      split
      · exact List.take_of_length_le (by have := HC.out; omega)
      · rfl
    have hG2 := HG.out.book D _ (.deferred none) HK.out hbk (by rw [HN0.out]; omega)
    exact ⟨_, s, rfl, by rw [hcut]; exact ownK_lower (own_book HO.out HK.out hbk _) (by rw [HN0.out]; omega), LV.book _ _ _ _ _ HV.out HK.out hbk, hG2.tr, hG2.sub, HVS.out⟩
  case stop =>
    rintro D c pre s W hD hpre hV ⟨rfl, hG, hc⟩ hK
    obtain ⟨v, hv, ho, hvs⟩ := hG.ex
    have c5 := hv.cell (i := 0) rfl
    have HG := Lib.hid hG
    have HV := Lib.hid hV
    have HO := Lib.hid ho
    have HVS := Lib.hid hvs
    have HK := Lib.hid hK
    have HD := Lib.hid hD
    have HC := Lib.hid hc
    have HPR := Lib.hid hpre
    have hbk : isBook (.deferred (some [])) = true := rfl
    clear hG hV hv ho hvs hK hD hc hseq hV2 G0 A0 B2 k2 hpre
    refine wpIn_wide.2 ?_
    go_wp2
    refine ⟨by simp, .inl ⟨_, _, rfl, run_takeDeferred HK.out, ?_⟩⟩
    refine ⟨v, by simp [results, Try.results37, go_sem], ?_⟩
    have hd := HD.out
    rw [HS2.out] at hd
    have hcut : cutAt mo (P ++ Q) = pre := by
      obtain ⟨h1, h2⟩ := HC.out
      unfold cutAt
      rw [if_pos (by omega), ← h1, Int.toNat_natCast]
      exact (List.prefix_iff_eq_take.1 HPR.out).symm
    have hG2 := HG.out.book D _ (.deferred none) HK.out hbk (by rw [HN0.out]; omega)
    exact ⟨_, s, rfl, by rw [hcut]; exact ownK_lower (own_book HO.out HK.out hbk _) (by rw [HN0.out]; omega), LV.book _ _ _ _ _ HV.out HK.out hbk, hG2.tr, hG2.sub, HVS.out⟩
end
end Go.Proofs.Ytchlemajppnehaa

/- The document's own Due: At, and its calls by what is in the list. -/
set_option maxRecDepth 100000
namespace Go.Proofs.Ytchlemajppnehaa
open Go Go.RowKit Go.Shelf
theorem atOf_at {E : List (Int × Int)} {k : Int} : ∀ {j : Nat} (hj : j < E.length), E[j].1 = k → (∀ z, z < j → (E.map (·.1))[z]? ≠ some k) → atOf E k = some E[j].2 := by
  induction E with
  | nil => intro j hj; exact absurd hj (Nat.not_lt_zero j)
  | cons y E ih =>
    intro j hj e hz
    cases j with
    | zero =>
      unfold atOf
      rw [List.find?_cons_of_pos (p := fun e : Int × Int => e.1 == k) (by simpa using e)]
      rfl
    | succ j =>
      have hne : ¬ (y.1 == k) = true := fun e2 => hz 0 (by omega) (by simpa using e2)
      have := ih (j := j) (by simpa using hj) (by simpa using e) (fun z hzj => by have := hz (z + 1) (by omega); simpa using this)
      unfold atOf at this ⊢
      rw [List.find?_cons_of_neg (p := fun e : Int × Int => e.1 == k) hne]
      exact this
/-- Who is there once stands at one place: without it, the list is the list without the key. -/
theorem filter_at {E : List (Int × Int)} {k : Int} (hn : (E.map (·.1)).Nodup) : ∀ {j : Nat} (hj : j < E.length), E[j].1 = k → E.filter (fun e => e.1 != k) = E.take j ++ E.drop (j + 1) := by
  induction E with
  | nil => intro j hj; exact absurd hj (Nat.not_lt_zero j)
  | cons y E ih =>
    intro j hj e
    rw [List.map_cons, List.nodup_cons] at hn
    cases j with
    | zero =>
      have e1 : y.1 = k := e
      rw [List.filter_cons_of_neg (by simp [e1])]
      simp only [List.take_zero, List.nil_append, List.drop_succ_cons, List.drop_zero]
      refine List.filter_eq_self.2 fun z hz => ?_
      rw [bne_iff_ne]
      exact fun e2 => hn.1 (by rw [e1, ← e2]; exact List.mem_map_of_mem hz)
    | succ j =>
      have hj2 : j < E.length := by simpa using hj
      have e1 : E[j].1 = k := e
      have hne : y.1 ≠ k := fun e2 => hn.1 (by rw [e2, ← e1]; exact List.mem_map_of_mem (List.getElem_mem hj2))
      rw [List.filter_cons_of_pos (by simpa using hne), ih hn.2 hj2 e1]
      rfl
theorem place_of {E : List (Int × Int)} {k : Int} (hk : k ∈ E.map (·.1)) : ∃ j, ∃ hj : j < E.length, plc k (E.map (·.1)) 0 = (j : Int) ∧ E[j].1 = k ∧ ∀ z, z < j → (E.map (·.1))[z]? ≠ some k := by
  obtain ⟨j, h1, h2, h3, h4⟩ := plc_some (i := 0) hk
  rw [List.length_map] at h1
  refine ⟨j, h1, by rw [h2, Nat.zero_add], ?_, h4⟩
  rw [List.getElem?_map, List.getElem?_eq_getElem h1] at h3
  exact Option.some.inj h3
section
variable {x : Nat → Prop} {m : Nat} {E : List (Int × Int)} {w : World}
end
end Go.Proofs.Ytchlemajppnehaa

/- upto of the law's own: who is by then, as far as asked. -/
set_option maxRecDepth 100000
namespace Go.Proofs.Ytchlemajppnehaa
open Go Go.RowKit Go.Shelf Go.Maps
attribute [local go_sem] Oper.semAt_some
theorem eql_nilU (W : World) (f B C : Nat) : (binOp .eql 39 (.func (.func f) #[] #[.pointer (some ⟨B, 0, none⟩), .pointer (some ⟨C, 0, none⟩)]) .nilFunc).run Try.prog W = .ok (.bool false) W := by
  kernel_rfl
theorem insE_len (x : Int × Int) : ∀ l, (Du.insE x l).length = l.length + 1
  | [] => rfl
  | y :: l => by
    unfold Du.insE
    split
    · rfl
    · rw [List.length_cons, insE_len x l, List.length_cons]
theorem uptoE_len (most : Int) : ∀ l acc, (Du.uptoE most l acc).length ≤ l.length + acc.length
  | [], acc => by unfold Du.uptoE; simp
  | x :: l, acc => by
    unfold Du.uptoE
    refine Nat.le_trans (uptoE_len most l _) ?_
    split
    · rw [insE_len, List.length_cons]; omega
    · rw [List.length_cons]; omega
section
variable {X : Nat} {E : List (Int × Int)} {N : Nat} {f : Nat → Prop} {w : World}
/-- What upto makes. -/
def UptoRet (X : Nat) (E : List (Int × Int)) (at_ : Int) (N : Nat) (f : Nat → Prop) (w : World) (mo : Int) (e : Ending) (w' : World) : Prop :=
  ∃ v s, e = .returned v ∧ OwnK encQ 2 38 w.heap.size v (cutAt mo (Du.uptoE at_ E [])) w' ∧ DV X E N s w' ∧ Trn f w w' ∧ (∀ k, s k → grow f w w' k) ∧ ∀ g, v.ownBlock = some g → ¬ s g
abbrev tSq : TypeId := 35
set_option maxHeartbeats 16000000 in
theorem upto_any (h : DV X E N f w) (hN : N < 80000) (at_ mo : Int) (hat : I64 at_) :
    Calls Try.prog 40 #[.pointer (some ⟨X, 0, none⟩), .int .i64 at_, .int .i64 mo] w (UptoRet X E at_ N f w mo) := by
  refine (callsIn_wide (n := 20)).1 ?_
  refine callsIn_of_wp_marks Try.func40 rfl trivial ?_ rfl
  simp only [Try.ntmps40, List.size_toArray, List.length_cons, List.length_nil, Nat.reduceAdd, Nat.reduceSub, Array.replicate_succ, Array.replicate_zero, List.push_toArray, List.append_toArray, List.nil_append, List.cons_append]
  refine wpIn_wide.2 ?_
  have hnil := eql_nilU
  have HLEN := Lib.hid (show (Du.uptoE at_ E []).length < 100000 by have := h.len_le; have := uptoE_len at_ E []; simp at this; omega)
  go_wp2_with (go_at_call 25; refine (dupto_any _ _ _).mono ?_; rintro e w' ⟨rfl, rfl⟩)
  have hfb := h.fb
  obtain ⟨n0, hn0⟩ : ∃ n0, w.heap.size = n0 := ⟨_, rfl⟩
  obtain ⟨W1, hW1⟩ : ∃ W1, (w.alloc (.cells #[.int .i64 mo] 3)).alloc (.cells #[.slice none 0 0] tSq) = W1 := ⟨_, rfl⟩
  obtain ⟨W2, hW2⟩ : ∃ W2, (W1.alloc (.cells #[.pointer (some ⟨X, 0, none⟩)] 33)).alloc (.cells #[.int .i64 at_] 3) = W2 := ⟨_, rfl⟩
  have s1 : W1.heap.size = w.heap.size + 2 := by rw [← hW1, World.size_alloc, World.size_alloc]
  have s2 : W2.heap.size = w.heap.size + 4 := by rw [← hW2, World.size_alloc, World.size_alloc, s1]
  have B2 : Below w.heap.size w W2 := by rw [← hW2, ← hW1]; exact ((((Below.refl _ _).alloc (Nat.le_refl _) _).alloc (by simp) _).alloc (by rw [World.size_alloc, World.size_alloc]; omega) _).alloc (by rw [World.size_alloc, World.size_alloc, World.size_alloc]; omega) _
  have k0 : Blk W2 w.heap.size [.int .i64 mo] 3 := by rw [← hW2, ← hW1]; exact (((Blk.new w _ _).alloc _).alloc _).alloc _
  have k1 : Blk W2 (w.heap.size + 1) [.slice none 0 0] tSq := by
    rw [← hW2, ← hW1]
    have := Blk.new (w.alloc (.cells #[.int .i64 mo] 3)) [.slice none 0 0] tSq
    rw [World.size_alloc] at this
    exact (this.alloc _).alloc _
  have k2 : Blk W2 (w.heap.size + 1 + 1) [.pointer (some ⟨X, 0, none⟩)] 33 ∧ Blk W2 (w.heap.size + 1 + 1 + 1) [.int .i64 at_] 3 := by
    rw [← hW2, show w.heap.size + 1 + 1 = W1.heap.size by rw [s1]]
    have := Blk.new (W1.alloc (.cells #[.pointer (some ⟨X, 0, none⟩)] 33)) [.int .i64 at_] 3
    rw [World.size_alloc] at this
    exact ⟨(Blk.new _ _ _).alloc _, this⟩
  rw [hW1, hW2]
  have hV2 : DV X E N f W2 := h.below B2
  have G0 : Gath encQ 2 38 tSq f w (w.heap.size + 2) (w.heap.size + 1) [] f W2 := ⟨⟨_, k1, ownK_nil _ _ _ _ _, fun g e => by cases e⟩, ⟨fun e => by have := hfb _ e; omega, by omega, by omega⟩, Trn.of_below B2, fun b e => .inl e⟩
  have A0 : Aside w.heap.size [.int .i64 mo] 3 f W2 := ⟨k0, fun e => by have := hfb _ e; omega⟩
  clear hW1 hW2 s1 k0 k1 h hfb hnil
  have HN0 := Lib.hid hn0
  rw [hn0] at s2 B2 k2 G0 A0 ⊢
  have HS2 := Lib.hid s2
  clear hn0 s2
  have hseq : SeqZ Fence.wide (20 - 1) Try.prog 51 #[.pointer (some ⟨n0 + 1 + 1, 0, none⟩), .pointer (some ⟨n0 + 1 + 1 + 1, 0, none⟩)] encP (fun W => Blk W (n0 + 1 + 1) [.pointer (some ⟨X, 0, none⟩)] 33 ∧ Blk W (n0 + 1 + 1 + 1) [.int .i64 at_] 3) (DV X E N) (fun (t : Nat × Nat × Nat × Option Nat) R => UDx X E at_ N t.1 t.2.1 t.2.2.1 t.2.2.2 R) MvL (Du.uptoE at_ E []) f :=
    fun l C Cx W hz hV hC hCx h0 hY => dupto_seq (by omega) hN hat hV hz.1 hz.2 C Cx hC hCx h0 (fun xb vb pre x R s W1 hT hU hc => hY (xb, W.heap.size, l, vb) pre x R s W1 hT hU hc)
  refine (wpIn_wide (n := 20)).1 ?_
  refine wpIn_rangeFunc_Z ?h1 ?h2 (gf := 51) (lb := #[.pointer (some ⟨n0 + 1 + 1, 0, none⟩), .pointer (some ⟨n0 + 1 + 1 + 1, 0, none⟩)]) ?h3 ?h4 ?h5
    hseq ?h6 ?h7 ?h8 ?h9 ?h10 ?h11 ?h12
    (fun pre s W => Gath encQ 2 38 tSq f w (n0 + 2) (n0 + 1) pre s W ∧ Aside n0 [.int .i64 mo] 3 s W ∧ (mo < 1 ∨ (pre.length : Int) < mo))
    (fun c pre s W => c = .exit 0 ∧ Gath encQ 2 38 tSq f w (n0 + 2) (n0 + 1) pre s W ∧ (pre.length : Int) = mo ∧ 1 ≤ pre.length)
    ?h13 ?h14 ?h15 ?h16 hV2 ?h17 (fun x => { tmps := #[.pointer (some ⟨X, 0, none⟩), .int .i64 at_, .int .i64 mo, undef, undef, .pointer (some ⟨n0, 0, none⟩), .slice none 0 0, .pointer (some ⟨n0 + 1, 0, none⟩), .func (.func 51) #[] #[.pointer (some ⟨n0 + 1 + 1, 0, none⟩), .pointer (some ⟨n0 + 1 + 1 + 1, 0, none⟩)], .int .i64 x.1, .int .i64 x.2, .pointer (some ⟨X, 0, none⟩), .int .i64 at_, .func (.func 51) #[] #[.pointer (some ⟨n0 + 1 + 1, 0, none⟩), .pointer (some ⟨n0 + 1 + 1 + 1, 0, none⟩)], .func (.func 51) #[] #[.pointer (some ⟨n0 + 1 + 1, 0, none⟩), .pointer (some ⟨n0 + 1 + 1 + 1, 0, none⟩)], .bool false, .func (.func 51) #[] #[.pointer (some ⟨n0 + 1 + 1, 0, none⟩), .pointer (some ⟨n0 + 1 + 1 + 1, 0, none⟩)], .int .i64 x.1, .int .i64 x.2, undef, undef, undef, undef, undef, undef, undef, undef, undef, undef, undef], defers := [] }) ?assign ?body ?done ?stop
  case h1 => rfl
  case h2 => omega
  case h3 => rfl
  case h4 => trivial
  case h5 => exact enters_of Try.func51 (by kernel_rfl) rfl
  case h6 => exact fun W o h => ⟨h.1.alloc o, h.2.alloc o⟩
  case h7 => exact k2
  case h8 => exact fun s W o h => h.below ((Below.refl _ _).alloc (Nat.le_refl _) _)
  case h9 => exact DV.book
  case h10 => exact fun t R => UDx.book
  case h11 => exact fun s W s' W' hm k o ho hk => hm.1.book k o ho hk
  case h12 => exact fun _ => rfl
  case h13 => exact fun s pre X Y row h hg hr => ⟨Gath.own (by have := B2.size; omega) pre X Y row h.1 hg hr, Aside.own pre X Y row h.2.1 hg hr, h.2.2⟩
  case h14 => exact fun c s pre X Y row h hg hr => ⟨h.1, Gath.own (by have := B2.size; omega) pre X Y row h.2.1 hg hr, h.2.2⟩
  case h15 => exact fun pre s s' X Y h hm => ⟨h.1.move hm, h.2.1.move hm, h.2.2⟩
  case h16 => exact fun c pre s s' X Y h hm => ⟨h.1, h.2.1.move hm, h.2.2⟩
  case h17 => exact ⟨G0, A0, by simp; omega⟩
  case assign =>
    intro l x W K hK
    unfold encP
    clear hseq hV2 G0 A0 B2 k2
    gi_wp2
    exact hK

  case body =>
    rintro l t pre x R s W hT hU ⟨hG, hA, hc⟩
    obtain ⟨v, hv, ho, hvs⟩ := hG.ex
    obtain ⟨ao, cap, rfl, _⟩ := ownK_form ho
    have hPl : pre.length < (Du.uptoE at_ E []).length := by rw [← hT]; simp
    have hPn : (Du.uptoE at_ E []).length < 100000 := HLEN.out
    have hUf := hU.ud.fb
    obtain ⟨k, hk⟩ : ∃ k, pre.length = k := ⟨_, rfl⟩
    have c5 := hv.cell (i := 0) rfl
    have c3 := hA.1.cell (i := 0) rfl
    have f5 := hv.frozen 0
    rw [hk] at c5 hv ho hvs hc
    have HU := Lib.hid hU
    have HG := Lib.hid hG
    have HA := Lib.hid hA
    have HV := Lib.hid hv
    have HO := Lib.hid ho
    have HVS := Lib.hid hvs
    have HUF := Lib.hid hUf
    have hM2 : ∀ o, n0 + 2 ≤ (W.alloc o).heap.size := fun o => by have := hv.lt; rw [World.size_alloc]; omega
    have hk9 : k < 100000 := by omega
    have HKL := Lib.hid hk
    clear hU hG hA hv ho hvs hUf hk hseq hV2 G0 A0 B2 k2 hPl hPn hT
    by_cases hm : (k : Int) + 1 = mo
    all_goals gi_wp2_with (gi_at_builtin; (
     refine wpListIn_apK encQ_len (by decide) encQ_one (x := fun _ => True) Try.underlying35 infoQ rfl (by decide) rfl _ _ rfl rfl (n0 + 2) (.slice ao k cap) pre rfl (ownK_alloc HO.out _) (.slice (some ⟨W.heap.size, 0, none⟩) 1 1) [x] (by simp) rfl (RK.oneN (enc := encQ) x 38 _ _ (by simp) _ rfl) (by rw [HKL.out]; simp; omega) (hM2 _) ?_
     intro g cp w1 ho1 hg1 hl1
     rw [List.length_append, List.length_singleton, HKL.out] at ho1
     rw [List.length_append, List.length_singleton, HKL.out]
     have P := Gath.push (M2 := W2.heap.size) HG.out HV.out HO.out HVS.out (by decide) HUF.out ho1 hg1 hl1 rfl
     obtain ⟨G3, P⟩ := P
     obtain ⟨K3, P⟩ := P
     obtain ⟨S3, Z3, L3, b1, b3⟩ := P
     have d5 := b1.cell (i := 0) rfl
     have d6 := b1.frozen 0
     have d7 := b3.cell (i := 0) rfl
     have d8 := HA.out.1.kept (L3 n0 (by omega) HA.out.1.lt (by omega))
     have d9 := d8.cell (i := 0) rfl
     have HA3 := Lib.hid (show Aside n0 [.int .i64 mo] 3 s _ from ⟨d8, HA.out.2⟩)
     have HG3 := Lib.hid G3
     have HK3 := Lib.hid K3
     have HS3 := Lib.hid S3
     have HZ3 := Lib.hid Z3
     clear G3 K3 S3 Z3 L3 b1 b3 d8
     clear c5 c3 f5
     clear ho1 hg1 hl1
     ))
    · refine ⟨HK3.out, s, HU.out.away HS3.out HZ3.out, rfl, HG3.out, ?_, ?_⟩
      · rw [List.length_append, List.length_singleton, HKL.out]
        omega
      · rw [List.length_append, List.length_singleton]
        omega
    · refine ⟨HK3.out, s, HU.out.away HS3.out HZ3.out, HG3.out, HA3.out, ?_⟩
      rw [List.length_append, List.length_singleton, HKL.out]
      omega
  case done =>
    rintro D s W hD hV ⟨hG, _, hc⟩ hK
    obtain ⟨v, hv, ho, hvs⟩ := hG.ex
    have c5 := hv.cell (i := 0) rfl
    have HG := Lib.hid hG
    have HV := Lib.hid hV
    have HO := Lib.hid ho
    have HVS := Lib.hid hvs
    have HK := Lib.hid hK
    have HD := Lib.hid hD
    have HC := Lib.hid hc
    have hbk : isBook (.deferred (some [])) = true := rfl
    clear hG hV hv ho hvs hK hD hc hseq hV2 G0 A0 B2 k2
    go_wp2
    refine ⟨by simp, .inl ⟨_, _, rfl, run_takeDeferred HK.out, ?_⟩⟩
    refine ⟨v, by simp [results, Try.results40, go_sem], ?_⟩
    have hd := HD.out
    rw [HS2.out] at hd
    have hcut : cutAt mo (Du.uptoE at_ E []) = Du.uptoE at_ E [] := by
      unfold cutAt
      split
      · exact List.take_of_length_le (by have := HC.out; omega)
      · rfl
    have hG2 := HG.out.book D _ (.deferred none) HK.out hbk (by rw [HN0.out]; omega)
    exact ⟨_, s, rfl, by rw [hcut]; exact ownK_lower (own_book HO.out HK.out hbk _) (by rw [HN0.out]; omega), DV.book _ _ _ _ _ HV.out HK.out hbk, hG2.tr, hG2.sub, HVS.out⟩
  case stop =>
    rintro D c pre s W hD hpre hV ⟨rfl, hG, hc⟩ hK
    obtain ⟨v, hv, ho, hvs⟩ := hG.ex
    have c5 := hv.cell (i := 0) rfl
    have HG := Lib.hid hG
    have HV := Lib.hid hV
    have HO := Lib.hid ho
    have HVS := Lib.hid hvs
    have HK := Lib.hid hK
    have HD := Lib.hid hD
    have HC := Lib.hid hc
    have HPR := Lib.hid hpre
    have hbk : isBook (.deferred (some [])) = true := rfl
    clear hG hV hv ho hvs hK hD hc hseq hV2 G0 A0 B2 k2 hpre
    refine wpIn_wide.2 ?_
    go_wp2
    refine ⟨by simp, .inl ⟨_, _, rfl, run_takeDeferred HK.out, ?_⟩⟩
    refine ⟨v, by simp [results, Try.results40, go_sem], ?_⟩
    have hd := HD.out
    rw [HS2.out] at hd
    have hcut : cutAt mo (Du.uptoE at_ E []) = pre := by
      obtain ⟨h1, h2⟩ := HC.out
      unfold cutAt
      rw [if_pos (by omega), ← h1, Int.toNat_natCast]
      exact (List.prefix_iff_eq_take.1 HPR.out).symm
    have hG2 := HG.out.book D _ (.deferred none) HK.out hbk (by rw [HN0.out]; omega)
    exact ⟨_, s, rfl, by rw [hcut]; exact ownK_lower (own_book HO.out HK.out hbk _) (by rw [HN0.out]; omega), DV.book _ _ _ _ _ HV.out HK.out hbk, hG2.tr, hG2.sub, HVS.out⟩
end
end Go.Proofs.Ytchlemajppnehaa
