/- 2 texts put together: Sq, Name. -/
import Derived.Lib.ConvBytes
import Derived.Laws.BitsLemmas
import Derived.Lib.AtoiErrMem
import Derived.Test.YtdodamkndigjkaaJB10
import Derived.Test.YtdodamkndigjkaaJB12
import Derived.Test.YtdodamkndigjkaaJB14
/- squeeze: what was not written yet, and a pointer to what was. -/
namespace Go.Proofs.Ytdodamkndigjkaa
open Go.RowKit Go.Shelf Go.Maps
attribute [local go_sem] Oper.semAt_some

/-! ### Without a program -/
/-! ### What a loop's book-keeping leaves alone -/
theorem WrE.book {B : Nat} {S : WS} {f : Nat → Prop} {W W' : World} {row : Option Nat} (h : WrE B S f W) (hg : W.grownBy W' row) (hr : ∀ r, row = some r → ∃ o : Obj, W.heap[r]? = some o ∧ isBook o = true) : WrE B S f W' := by
  obtain ⟨vo, vm, h⟩ := h
  have hs : ∀ (k : Nat) (o : Obj), W.heap[k]? = some o → isBook o = false → W'.heap[k]? = some o := fun k o ho hb => by
    refine (hg.block k (blk_lt ho) (fun e => ?_)).trans ho
    obtain ⟨o', ho', hb'⟩ := hr k e.symm
    rw [ho] at ho'
    cases ho'
    rw [hb] at hb'
    cases hb'
  refine ⟨vo, vm, hs B _ h.heap rfl, h.self, ⟨h.own.1, ?_⟩, h.nil, h.mine, h.len, ?_⟩
  · rcases h.own.2 with hn | ⟨g, cap, cur, rfl, hbg, hgb, r⟩
    · exact .inl hn
    · exact .inr ⟨g, cap, cur, rfl, hbg, hs g _ hgb rfl, r⟩
  · rcases h.map with hn | ⟨b, rfl, hf, hm⟩
    · exact .inl hn
    · refine .inr ⟨b, rfl, hf, ?_⟩
      obtain ⟨es, ck, hb, r⟩ := hm
      exact ⟨es, ck, hs b _ hb rfl, r⟩
theorem Turn.grown {f : Nat → Prop} {w W W' : World} {row : Option Nat} (h : Turn f w W) (hg : W.grownBy W' row) (hr : ∀ r, row = some r → w.heap.size ≤ r) : Turn f w W' := by
  have hb : ∀ k, k < w.heap.size → W'.heap[k]? = W.heap[k]? := fun k hk => hg.block k (Nat.lt_of_lt_of_le hk h.size) (fun e => by have := hr k e.symm; omega)
  exact ⟨hg.os.trans h.os, hg.tape.trans h.tape, hg.output.trans h.output, Nat.le_trans h.size hg.size, fun k hk hf => (hb k hk).trans (h.block k hk hf), fun k o ho hk => (hb k (blk_lt ho)).trans (h.book k o ho hk), fun k t u hx => (hb k hx.lt).trans (h.boxed k t u hx)⟩
theorem WrE.setBox {B : Nat} {S : WS} {f : Nat → Prop} {W : World} {b : Nat} {t : TypeId} {u : Value} (h : WrE B S f W) (hb : Boxed W b t u) (h2 : t ≠ 5) (v : Value) : WrE B S f (W.setCell ⟨b, 0, none⟩ v) := by
  obtain ⟨vo, vm, h⟩ := h
  have hbx : W.heap[b]? = some (.cells #[u] t (0, 0)) := hb
  have hs : ∀ (k : Nat), k ≠ b → (W.setCell ⟨b, 0, none⟩ v).heap[k]? = W.heap[k]? := fun k hk => Below.heap_setCell W ⟨b, 0, none⟩ v k hk
  refine ⟨vo, vm, (hs B (by rintro rfl; rw [h.heap] at hbx; cases hbx)).trans h.heap, h.self, ⟨h.own.1, ?_⟩, h.nil, h.mine, h.len, ?_⟩
  · rcases h.own.2 with hn | ⟨g, cap, cur, rfl, hbg, hgb, r⟩
    · exact .inl hn
    · exact .inr ⟨g, cap, cur, rfl, hbg, (hs g (by rintro rfl; rw [hgb] at hbx; cases hbx; exact h2 rfl)).trans hgb, r⟩
  · rcases h.map with hn | ⟨m, rfl, hf, hm⟩
    · exact .inl hn
    · refine .inr ⟨m, rfl, hf, ?_⟩
      obtain ⟨es, ck, hbm, r⟩ := hm
      exact ⟨es, ck, (hs m (by rintro rfl; rw [hbm] at hbx; cases hbx)).trans hbm, r⟩
theorem Turn.setNew {f : Nat → Prop} {w W : World} {b : Nat} (h : Turn f w W) (hb : w.heap.size ≤ b) (v : Value) : Turn f w (W.setCell ⟨b, 0, none⟩ v) :=
  h.grown (grownBy_setCell' W b v) (fun r e => by cases e; exact hb)
theorem keepsBk_turn {f : Nat → Prop} {W W' : World} (h : Turn f W W') (B : Nat) : KeepsBk B W W' := ⟨h.size, fun k o _ hk ho => h.book k o hk ho⟩
theorem ka_turn {f : Nat → Prop} {W W' : World} (h : Turn f W W') (B : Nat) : KA B W W' := fun k t u _ hb => h.boxed k t u hb

set_option maxRecDepth 100000 in
theorem look_run {tab : List (List UInt8 × Nat)} {f : Nat → Prop} {vm : Value} {W : World} (h : MapAt tab f vm W) {k : List UInt8} (hk : k.length ≤ 100000) :
    (Instr.lookup 118 vm (.string ⟨k.toArray⟩) true).run Try.prog W = .ok (.tuple #[.int .i64 (((look k tab).getD 0 : Nat) : Int), .bool (look k tab).isSome]) W := by
  have hz : (zeroValue 3).run Try.prog W = .ok (.int .i64 0) W := by kernel_rfl
  rcases h with ⟨rfl, rfl⟩ | ⟨b, rfl, hf, hm⟩
  · exact Maps.look_nil true keyed Try.underlying118 hz (keyOfS k (by omega))
  · obtain ⟨v, ps, hrun, hv⟩ := hm.look_ok keyed Try.underlying118 hz (plainElem_int Try.underlying3 (by decide)) (keyOfS k (by omega))
    obtain ⟨a, rfl, e, _⟩ := plainElem_int_inv Try.underlying3 hv
    rw [tabD_at] at e
    have := congrArg Prod.fst e
    simp only at this
    have h2 : (((look k tab).getD 0 : Nat) : Int) = a := by injection this with h3; injection h3
    rw [hrun, tabD_has, h2]
theorem conv_bytes (W : World) (l : List UInt8) : ∃ cap W', (convert 9 22 (.string ⟨l.toArray⟩)).run Try.prog W = .ok (.slice (some ⟨W.heap.size, 0, none⟩) l.length cap) W' ∧ ReadB (.slice (some ⟨W.heap.size, 0, none⟩) l.length cap) l W' ∧ Below W.heap.size W W' := by
  have hcv := Lib.run_convert_string_bytes (P := Try.prog) W 9 22 5 ⟨l.toArray⟩ Try.underlying9 Try.underlying22 Try.underlying5
  have hsz : (⟨l.toArray⟩ : ByteArray).size = l.length := by show l.toArray.size = _; simp
  rw [hsz] at hcv
  refine ⟨_, _, hcv, ⟨_, _, rfl, fun j hj => ⟨W.heap.size, 0, rfl, ?_⟩⟩, Lib.bytesWorld_below W 5 ⟨l.toArray⟩⟩
  rw [Nat.zero_add, Lib.bytesWorld_cell W 5 ⟨l.toArray⟩ j (by rw [hsz]; exact hj)]
  simp [List.getD, hj, encB]

/-- Where the loop stands: what is left of the labels. -/
structure SqAt (S : WS) (ls pre : List (List UInt8)) (Sk : WS) (rest : List (List UInt8)) : Prop where
  eq : ls = pre ++ rest
  sq : S.sq ls = Sk.sq rest
  ok : TabOk Sk
  size : Sk.size + Nm.encL rest = S.size + Nm.encL ls
  tab : Sk.tab.length ≤ S.tab.length + pre.length
def SqI (B : Nat) (S : WS) (ls : List (List UInt8)) (f : Nat → Prop) (w : World) (Bw Bl : Nat) (pre : List Lab) (W : World) : Prop :=
  ∃ Sk rest, SqAt S ls (pre.map Subtype.val) Sk rest ∧ Boxed W Bw 88 (.pointer (some ⟨B, 0, none⟩)) ∧ Boxed W Bl 9 (.string ⟨(Nm.made rest).toArray⟩) ∧ Turn f w W ∧ WrE B Sk (grow f w W) W
def SqX (B : Nat) (S : WS) (ls : List (List UInt8)) (f : Nat → Prop) (w : World) (c : Code) (_ : List Lab) (W : World) : Prop := c = .ret ∧ Turn f w W ∧ WrE B (S.sq ls) (grow f w W) W
theorem boxed_book {W W' : World} {b : Nat} {t : TypeId} {v : Value} {row : Option Nat} (h : Boxed W b t v) (hg : W.grownBy W' row) (hr : ∀ r, row = some r → ∃ o : Obj, W.heap[r]? = some o ∧ isBook o = true) : Boxed W' b t v :=
  h.kept hg (fun e => by
    obtain ⟨o, ho, hb⟩ := hr b e.symm
    rw [show W.heap[b]? = _ from h] at ho
    cases ho
    cases hb)
theorem grow_le {f : Nat → Prop} {w W W' : World} (h : W.heap.size ≤ W'.heap.size) (k : Nat) (hk : grow f w W k) : grow f w W' k := hk.imp id (fun h' => ⟨h'.1, by omega⟩)
theorem sqI_own {B : Nat} {S : WS} {ls : List (List UInt8)} {f : Nat → Prop} {w : World} {Bw Bl base : Nat} (hb : w.heap.size ≤ base) : OwnBk base (SqI B S ls f w Bw Bl) := by
  rintro pre A C row ⟨Sk, rest, hP, h1, h2, ht, hw⟩ hg hr
  have hr' : ∀ r, row = some r → ∃ o : Obj, A.heap[r]? = some o ∧ isBook o = true := fun r e => (hr r e).2
  exact ⟨Sk, rest, hP, boxed_book h1 hg hr', boxed_book h2 hg hr', ht.grown hg (fun r e => by have := (hr r e).1; omega), (hw.book hg hr').widen fun k _ => grow_le hg.size k⟩
theorem sqX_own {B : Nat} {S : WS} {ls : List (List UInt8)} {f : Nat → Prop} {w : World} {base : Nat} (hb : w.heap.size ≤ base) (c : Code) : OwnBk base (SqX B S ls f w c) := by
  rintro pre A C row ⟨rfl, ht, hw⟩ hg hr
  have hr' : ∀ r, row = some r → ∃ o : Obj, A.heap[r]? = some o ∧ isBook o = true := fun r e => (hr r e).2
  exact ⟨rfl, ht.grown hg (fun r e => by have := (hr r e).1; omega), (hw.book hg hr').widen fun k _ => grow_le hg.size k⟩
theorem SqAt.found {S Sk : WS} {ls pre r : List (List UInt8)} {l : List UInt8} {k : Nat} (h : SqAt S ls pre Sk (l :: r)) (hk : look (Nm.made (l :: r)) Sk.tab = some k) : S.sq ls = Sk.put (two (49152 + (k : Int))) := by
  rw [h.sq, WS.sq, hk]
theorem SqAt.next {S Sk : WS} {ls pre r : List (List UInt8)} {l : List UInt8} (h : SqAt S ls pre Sk (l :: r)) (hk : look (Nm.made (l :: r)) Sk.tab = none) : SqAt S ls (pre ++ [l]) ((Sk.note (Nm.made (l :: r))).put (UInt8.ofNat l.length :: l)) r where
  eq := by rw [h.eq]; simp
  sq := by rw [h.sq, WS.sq, hk]
  ok := tabOk_put (tabOk_note h.ok _) _
  size := by
    have := h.size
    have h2 := note_size Sk (Nm.made (l :: r))
    simp only [WS.put, Nm.encL, List.length_cons] at *
    omega
  tab := by
    have := h.tab
    have h2 := note_tab Sk (Nm.made (l :: r))
    show (Sk.note _).tab.length ≤ _
    rw [List.length_append, List.length_singleton]
    omega

theorem run_upto {P : Program} {t : TypeId} (h : P.underlying t = some .string) {l l' : List UInt8} {hi : Int} (h0 : 0 ≤ hi) (h2 : hi ≤ l.length) (hl : l' = l.take hi.toNat) (w : World) :
    (Instr.slice t (.string ⟨l.toArray⟩) none (some (.int .i64 hi)) none).run P w = .ok (.string ⟨l'.toArray⟩) w := by
  have hb : hi ≤ ((⟨l.toArray⟩ : ByteArray).size : Int) := by show hi ≤ (l.toArray.size : Int); simpa using h2
  rw [run_slice_string_h (P := P) (w := w) t ⟨l.toArray⟩ h .i64 hi h0 hb, ByteArray.extract_mk, hl]
  simp
theorem WrE.kept_drew {B : Nat} {S : WS} {f : Nat → Prop} {W : World} (h : WrE B S f W) : WrE B S f W.drew := by
  obtain ⟨vo, vm, h⟩ := h
  exact ⟨vo, vm, h.kept (fun _ _ _ => rfl)⟩
theorem or49152 (x : Int) (h0 : 0 ≤ x) (h1 : x < 16384) : bits .or .i64 49152 x = 49152 + x :=
  bits_join .i64 62 (by decide) (fun n h0 h1 => by rw [IntKind.wrap_i64]; omega) 14 49152 x (by decide) (by decide) (by decide) h0 (by omega) (by omega)

set_option maxRecDepth 100000 in
set_option maxHeartbeats 4000000 in
theorem squeeze_any (B : Nat) (S : WS) (f : Nat → Prop) (n : List UInt8) (w : World) (h : WrE B S f w) (hn : Nm.valid n = true) (hl : S.size ≤ 900000) (ht : S.tab.length ≤ 900000) (hT : TabOk S) :
    Calls Try.prog 75 #[.pointer (some ⟨B, 0, none⟩), .string ⟨n.toArray⟩] w (ActRet B (S.sq (Nm.labsD n)) f w) := by
  obtain ⟨_, hmade, hgood, hlen⟩ := Nm.labs_of_valid hn
  obtain ⟨ls, hls⟩ : ∃ ls, ls = Nm.labsD n := ⟨_, rfl⟩
  rw [← hls] at hmade hgood ⊢
  have HM := Lib.hid hmade
  have HG := Lib.hid hgood
  have HLS := Lib.hid hls
  have HW := Lib.hid h
  have HT := Lib.hid hT
  clear hmade hgood hls h hn hT
  refine (callsIn_wide (n := 12)).1 ?_
  refine callsIn_of_wp_marks Try.func75 rfl trivial ?_ rfl
  simp only [Try.ntmps75, List.size_toArray, List.length_cons, List.length_nil, Nat.reduceAdd, Nat.reduceSub, Array.replicate_succ, Array.replicate_zero, List.push_toArray, List.append_toArray, List.nil_append, List.cons_append]
  gi_wp2_with (first
    | (refine ⟨trivial, ?_⟩; gi_at_call 67; refine (callsIn_wide.2 (clone_any n _ (by omega))).mono ?_; rintro e w1 ⟨rfl, hb1⟩)
    | (refine ⟨trivial, ?_⟩; gi_at_call 96; refine (callsIn_wide.2 (labels_any n _)).mono ?_; rintro e w' ⟨rfl, rfl⟩))
  have hsz1 := hb1.size
  simp only [World.size_alloc] at hb1 hsz1
  have hbw : Below w.heap.size w w1 := ((Below.refl _ w).alloc (Nat.le_refl _) _).trans (hb1.mono (by omega))
  have hbox1 : Boxed w1 w.heap.size 88 (.pointer (some ⟨B, 0, none⟩)) := boxed_below (Boxed.new w 88 _) (by simpa using hb1)
  have hbox2 := (hbox1.alloc (.cells #[.string ⟨n.toArray⟩] 9)).alloc (.cells #[.string ⟨n.toArray⟩] 9)
  have hboxl := (Boxed.new w1 9 (.string ⟨n.toArray⟩)).alloc (.cells #[.string ⟨n.toArray⟩] 9)
  have hboxn := Boxed.new (w1.alloc (.cells #[.string ⟨n.toArray⟩] 9)) 9 (.string ⟨n.toArray⟩)
  have hbw0 : Below w.heap.size w ((w1.alloc (.cells #[.string ⟨n.toArray⟩] 9)).alloc (.cells #[.string ⟨n.toArray⟩] 9)) := (hbw.alloc (by omega) _).alloc (by simp; omega) _
  have hszw : ((w1.alloc (.cells #[.string ⟨n.toArray⟩] 9)).alloc (.cells #[.string ⟨n.toArray⟩] 9)).heap.size = w1.heap.size + 2 := by simp
  simp only [World.size_alloc] at hboxn
  generalize (w1.alloc (.cells #[.string ⟨n.toArray⟩] 9)).alloc (.cells #[.string ⟨n.toArray⟩] 9) = W0 at *
  refine wpIn_rangeFunc_ownB rfl (by omega) (gf := 110) (lb := #[.pointer (some ⟨w1.heap.size + 1, 0, none⟩)]) (by rfl) trivial (enters_of Try.func110 (by kernel_rfl) rfl)
    (labels_stops _ (by omega) (w1.heap.size + 1) n (by omega) _ hboxn) ka_t ka_b (Below.refl _ _) (fun _ => rfl)
    (SqI B S ls f w w.heap.size w1.heap.size) (SqX B S ls f w) (sqI_own (by omega)) (sqX_own (by omega))
    ⟨S, ls, ⟨rfl, rfl, HT.out, rfl, by simp⟩, hbox2, by rw [← HM.out]; exact hboxl, Turn.of_below hbw0, (HW.out.below hbw0).widen fun _ _ => .inl⟩
    (fun x => { tmps := #[.pointer (some ⟨B, 0, none⟩), .string ⟨n.toArray⟩, .pointer (some ⟨w.heap.size, 0, none⟩), undef, .pointer (some ⟨w1.heap.size, 0, none⟩), .string ⟨x.1.toArray⟩, undef, undef, undef, .string ⟨n.toArray⟩, .string ⟨n.toArray⟩, .string ⟨n.toArray⟩, .func (.func 110) #[] #[.pointer (some ⟨w1.heap.size + 1, 0, none⟩)], .string ⟨x.1.toArray⟩, undef, undef, undef, undef, undef, undef, undef, undef, undef, undef, undef, undef, undef, undef, undef, undef, undef, undef, undef, undef, undef, undef, undef, undef, undef, undef, undef, undef, undef, undef, undef, undef], defers := [] }) ?assign ?body ?done ?stop
  case assign =>
    intro l x W K hK
    gi_wp2
    exact hK
  case body =>
    rintro l1 pre x W ⟨Sk, rest, hP, h1, h2, ht, hw⟩ hlen hsp
    have hF1 : Fence.wide.fn 76 := trivial
    have hF2 : Fence.wide.fn 48 := trivial
    have hF3 : Fence.wide.fn 97 := trivial
    obtain ⟨r, rfl⟩ : ∃ r, rest = x.1 :: r := by
      rw [← HLS.out, hP.eq, List.map_append] at hsp
      have h3 := (List.prefix_append_right_inj _).1 hsp
      obtain ⟨r, h4⟩ := h3
      exact ⟨r, by rw [← h4]; rfl⟩
    obtain ⟨vo, vm, hwr⟩ := hw
    have c1 := h1.cell
    have c2 := h2.cell
    have c4 := blk_cell hwr.heap 4 (v := vm) rfl
    have hgl : 1 ≤ x.1.length ∧ x.1.length ≤ 63 := HG.out x.1 (by rw [hP.eq]; simp)
    have hml : (Nm.made (x.1 :: r)).length ≤ 256 := by
      have h3 := Nm.made_length ls
      rw [← HM.out, hP.eq, Nm.encL_append] at h3
      rw [Nm.made_length]
      omega
    have hsize : Sk.size ≤ 900300 := by
      have h3 := hP.size
      have h4 := Nm.made_length ls
      rw [← HM.out] at h4
      omega
    have htab : Sk.tab.length ≤ 900300 := by have := hP.tab; rw [List.length_map] at this; omega
    have hdec : Nm.made (x.1 :: r) = (UInt8.ofNat x.1.length :: x.1) ++ Nm.made r := rfl
    have hmt : (Nm.made (x.1 :: r)).take (1 + x.1.length) = UInt8.ofNat x.1.length :: x.1 := by rw [hdec, List.take_left']; simp; omega
    have hmd : (Nm.made (x.1 :: r)).drop (1 + x.1.length) = Nm.made r := by rw [hdec, List.drop_left']; simp; omega
    have hlk : ∀ q, (Instr.lookup 118 vm (.string ⟨(Nm.made (x.1 :: r)).toArray⟩) true).run Try.prog (W.drewN q) = .ok (.tuple #[.int .i64 (((look (Nm.made (x.1 :: r)) Sk.tab).getD 0 : Nat) : Int), .bool (look (Nm.made (x.1 :: r)) Sk.tab).isSome]) (W.drewN q) := fun q => look_run (W := W.drewN q) (f := grow f w W) hwr.map (by omega)
    obtain ⟨key, hkey⟩ : ∃ key, key = Nm.made (x.1 :: r) := ⟨_, rfl⟩
    have hP1 := fun h => hP.next h
    have hP2 := fun k h => hP.found (k := k) h
    have hok := hP.ok
    rw [← hkey] at c2 hml hmt hmd hlk hP1 hP2
    have HP1 := Lib.hid hP1
    have HP2 := Lib.hid hP2
    have HOK := Lib.hid hok
    have HWD : Hid (∀ q, WrE B Sk (grow f w W) (W.drewN q)) := Lib.hid (fun q => ⟨vo, vm, hwr.kept (fun _ _ _ => rfl)⟩)
    have HH1 := Lib.hid h1
    have HH2 := Lib.hid h2
    have HTT := Lib.hid ht
    have HMT := Lib.hid hmt
    have HMD := Lib.hid hmd
    have HKEY := Lib.hid hkey
    have HKL : Hid (key.length = 1 + x.1.length + (Nm.made r).length) := Lib.hid (by rw [hkey, hdec]; simp; omega)
    clear hP1 hP2 hok hwr h1 h2 hmt hmd hdec hP hsp hkey
    cases hlook : look key Sk.tab with
    | some k =>
      have hk := HOK.out _ _ hlook
      have HK := Lib.hid (HP2.out k hlook)
      rw [hlook] at hlk
      have hlk' : ∀ q, (Instr.lookup 118 vm (.string ⟨key.toArray⟩) true).run Try.prog (W.drewN q) = .ok (.tuple #[.int .i64 (k : Int), .bool true]) (W.drewN q) := hlk
      have hor : bits .or .i64 49152 (k : Int) = 49152 + (k : Int) := or49152 _ (by omega) (by omega)
      clear hlook hlk
      gi_wp2
      refine wpIn_region_quiet_rlit (by kernel_rfl) (by kernel_rfl) (by kernel_rfl) ?_
      repeat (gi_big_quiet_step (fail))
      refine wpQuietIn_nil ?_
      intro _ hw'
      obtain ⟨nq, hw''⟩ := hw'
      subst hw''
      gi_wp2_with (gi_at_call 48; refine (CallsIn.inRound l1 (callsIn_wide.2 (wtwo_any B Sk (grow f w W) (49152 + (k : Int)) _ (HWD.out nq) (by omega)))).mono ?_; rintro e w2 ⟨rfl, ht2, hw2⟩)
      have ht2' : Turn (grow f w W) W w2 := ⟨ht2.os, ht2.tape, ht2.output, ht2.size, ht2.block, ht2.book, ht2.boxed⟩
      exact ⟨keepsBk_turn ht2' _, rfl, HTT.out.trans ht2', by rw [HK.out]; exact hw2.widen fun k _ h => grow_trans HTT.out.size ht2'.size k h⟩
    | none =>
      have HNX := Lib.hid (HP1.out hlook)
      rw [hlook] at hlk
      have hlk' : ∀ q, (Instr.lookup 118 vm (.string ⟨key.toArray⟩) true).run Try.prog (W.drewN q) = .ok (.tuple #[.int .i64 0, .bool false]) (W.drewN q) := hlk
      have hmp : Try.prog.follows .mixedOrders = true := by kernel_rfl
      clear hlook hlk
      gi_wp2
      refine wpIn_region_quiet_rlit (by kernel_rfl) (by kernel_rfl) (by kernel_rfl) ?_
      repeat (gi_big_quiet_step (fail))
      refine wpQuietIn_nil ?_
      intro _ hw'
      obtain ⟨nq, hw''⟩ := hw'
      subst hw''
      gi_wp2_with (gi_at_call 97; refine (CallsIn.inRound l1 (callsIn_wide.2 (note_any B Sk (grow f w W) key _ (HWD.out nq) (by omega) (by omega) (by omega)))).mono ?_; rintro e w2 ⟨rfl, ht2, hw2⟩)
      have ht2' : Turn (grow f w W) W w2 := ⟨ht2.os, ht2.tape, ht2.output, ht2.size, ht2.block, ht2.book, ht2.boxed⟩
      have hT2 := HTT.out.trans ht2'
      have hW2 : WrE B (Sk.note key) (grow f w w2) w2 := hw2.widen fun k _ h => grow_trans HTT.out.size ht2'.size k h
      have hx1 := ht2'.boxed _ _ _ HH1.out
      have hx2 := ht2'.boxed _ _ _ HH2.out
      rw [← HKEY.out] at hx2
      have e1 := hx1.cell
      have e2 := hx2.cell
      have hsl : ∀ W : World, (Instr.slice 9 (.string ⟨key.toArray⟩) none (some (.int .i64 (1 + (x.1.length : Int)))) none).run Try.prog W = .ok (.string ⟨(UInt8.ofNat x.1.length :: x.1).toArray⟩) W := fun W => run_upto Try.underlying9 (by omega) (by have := HKL.out; omega) (by rw [← HMT.out]; congr 1) W
      have hsl2 : ∀ W : World, (Instr.slice 9 (.string ⟨key.toArray⟩) (some (.int .i64 (1 + (x.1.length : Int)))) none none).run Try.prog W = .ok (.string ⟨(Nm.made r).toArray⟩) W := fun W => run_from Try.underlying9 (by omega) (by have := HKL.out; omega) (by rw [← HMD.out]; congr 1) W
      obtain ⟨cp, w3, hcv, hrd, hb3⟩ := conv_bytes w2.drew (UInt8.ofNat x.1.length :: x.1)
      have e3 := (boxed_below (W := w2.drew) hx1 hb3).cell
      have HT2 := Lib.hid hT2
      have HW2 := Lib.hid hW2
      have HX1 := Lib.hid hx1
      have HX2 := Lib.hid hx2
      have HRD := Lib.hid hrd
      have HB3 := Lib.hid hb3
      have hns := note_size Sk key
      have HNS := Lib.hid hns
      have HT2' := Lib.hid ht2'
      clear ht2 ht2' hT2 hW2 hx1 hx2 hrd hb3 hw2 hns
      gi_region_with_o (first
        | (gi_at_call 76; refine (CallsIn.inRound l1 (callsIn_wide.2 (bytes_any B (Sk.note key) (grow f w w2) (UInt8.ofNat x.1.length :: x.1) _ w3 (HW2.out.kept_drew.below HB3.out) HRD.out (by rw [HNS.out]; simp; omega)))).mono ?_; rintro e w4 ⟨rfl, ht4, hw4⟩))
      all_goals
        have hx24 := ht4.boxed _ _ _ (boxed_below (W := w2.drew) HX2.out HB3.out)
        have hx14 := ht4.boxed _ _ _ (boxed_below (W := w2.drew) HX1.out HB3.out)
        have e4 := hx24.cell
        have f4 := hx24.frozen
        have HT4 := Lib.hid ht4
        have HW4 := Lib.hid hw4
        have HX14 := Lib.hid hx14
        have HX24 := Lib.hid hx24
        clear ht4 hw4 hx14 hx24
        gi_wp2
        have hb23 := HB3.out
        have t23 : Turn (grow f w w2) w2 w3 := ⟨hb23.os, hb23.tape, hb23.output, hb23.size, fun k hk _ => hb23.block k hk, fun k o ho _ => (hb23.block k (blk_lt ho)).trans ho, fun _ _ _ hx => boxed_below (W := w2.drew) hx hb23⟩
        have t24 := t23.then HT4.out
        have tw4 := HT2.out.trans t24
        have hsz23 := t23.size
        have hsz34 := HT4.out.size
        have hsz2 := HT2.out.size
        have hwe : WrE B ((Sk.note key).put (UInt8.ofNat x.1.length :: x.1)) (grow f w w4) w4 := HW4.out.widen fun k _ h => by
          rcases h with (h | h) | h
          · exact .inl h
          · exact .inr ⟨h.1, by omega⟩
          · exact .inr ⟨by omega, h.2⟩
        refine ⟨((keepsBk_turn HT2'.out _).trans (keepsBk_turn t24 _)).trans (keepsFrom_book ((KeepsOthers.setCell _ _ _).from _)), ((ka_turn HT2'.out _).trans (ka_turn t24 _)).trans (KA.setCell (by omega) _ _), (Sk.note key).put (UInt8.ofNat x.1.length :: x.1), r, ?_, HX14.out.other (by omega) _, HX24.out.set _, tw4.setNew (by omega) _, (hwe.setBox HX24.out (by decide) _).widen fun k _ h => grow_le (by simp [World.setCell]) k h⟩
        rw [List.map_append]
        exact HNX.out
  case done =>
    rintro D ys W hD hS ⟨Sk, rest, hP, h1, h2, ht, hw⟩ hK
    have hF : Fence.wide.fn 76 := trivial
    obtain rfl : rest = [] := by
      have := hP.eq
      rw [hS, ← HLS.out] at this
      simpa using this
    have c1 := h1.cell
    have hsq : S.sq ls = Sk.put [0] := by rw [hP.sq, WS.sq]
    have HSQ := Lib.hid hsq
    have hsize : Sk.size ≤ 900300 := by have := hP.size; have h3 : Nm.encL ls ≤ 255 := by { have := Nm.made_length ls; rw [← HM.out] at this; omega }; simp only [Nm.encL] at this; omega
    clear hS hP h2 hsq
    gi_wp2_with (gi_at_call 76; refine (callsIn_wide.2 (bytes_any B Sk _ [0] _ _ (hw.below ((Below.refl _ _).alloc (Nat.le_refl _) _)) (readB_lit _ [0] [_] _ 1 rfl rfl) (by simp; omega))).mono ?_; rintro e w2 ⟨rfl, ht2, hw2⟩)
    have hT2 : Turn f w w2 := ht.trans ((Turn.of_below ((Below.refl _ _).alloc (Nat.le_refl _) _)).then ht2)
    have hK2 := ht2.book D _ ((Below.heap_alloc W _ D (blk_lt hK)).trans hK) rfl
    refine ⟨by simp, .inl ⟨_, _, rfl, run_takeDeferred hK2, ?_⟩⟩
    refine ⟨_, results_none rfl _ _ _, rfl, hT2.grown (grownBy_putObj' w2 D _) (fun r e => by cases e; omega), ?_⟩
    rw [HSQ.out]
    have hs1 := ht.size
    have hs2 := ht2.size
    have hw3 : WrE B (Sk.put [0]) (grow f w w2) w2 := hw2.widen fun k _ h => grow_trans hs1 (by simp at hs2; omega) k (grow_alloc k h)
    exact (hw3.book (grownBy_putObj' w2 D _) (fun r e => by cases e; exact ⟨_, hK2, rfl⟩)).widen fun k _ => grow_le (by simp [World.putObj]) k
  case stop =>
    rintro D c pre W hD hSp ⟨rfl, ht, hw⟩ hK
    gi_wp2
    refine ⟨by simp, .inl ⟨_, _, rfl, run_takeDeferred hK, ?_⟩⟩
    refine ⟨_, results_none rfl _ _ _, rfl, ht.grown (grownBy_putObj' W D _) (fun r e => by cases e; omega), ?_⟩
    exact (hw.book (grownBy_putObj' W D _) (fun r e => by cases e; exact ⟨_, hK, rfl⟩)).widen fun k _ => grow_le (by simp [World.putObj]) k
end Go.Proofs.Ytdodamkndigjkaa

/- Name, Clone, Out. -/
namespace Go.Proofs.Ytdodamkndigjkaa
open Go.RowKit Go.Shelf Go.Maps
attribute [local go_sem] Oper.semAt_some

set_option maxRecDepth 100000 in
set_option maxHeartbeats 2000000 in
theorem name_any (B : Nat) (S : WS) (f : Nat → Prop) (n : List UInt8) (sq : Bool) (w : World) (h : WrE B S f w) (hn : n.length ≤ 100000) (hl : S.size ≤ 800000) (ht : S.tab.length ≤ 800000) (hT : TabOk S) :
    Calls Try.prog 47 #[.pointer (some ⟨B, 0, none⟩), .string ⟨n.toArray⟩, .bool sq] w (ActRet B (S.name n sq) f w) := by
  cases hv : Nm.valid n
  · have HS : Hid (S.name n sq = { S with bad := true }) := Lib.hid (by unfold WS.name; rw [if_pos hv])
    have HV := Lib.hid hv
    obtain ⟨vo, vm, h⟩ := h
    have c3 := blk_cell h.heap 3 (v := .bool S.bad) rfl
    have f3 := blk_frozen h.heap 3
    have hb := blk_set h.heap 3 (.bool true)
    have HH := Lib.hid h
    have HB := Lib.hid hb
    clear h hb hv
    go_enter Try.func47, Try.ntmps47
    go_wp2_with (go_at_call 74; refine (valid_any n _ hn).mono ?_; rw [HV.out]; rintro e w' ⟨rfl, rfl⟩)
    go_end0
    have h := HH.out
    refine ⟨rfl, turn_setCell h.heap (by simp [wCells]) h.self 3 _, ?_⟩
    rw [HS.out]
    refine h.again (by rw [HB.out]; simp [wCells]) (ownE_other h.own (fun k _ hk => Below.heap_setCell _ ⟨B, 3, none⟩ _ k hk) h.out_ne) h.nil (fun g hg => .inl (h.mine g hg)) h.len rfl (fun k es ck hk => ?_)
    exact Below.heap_setCell _ ⟨B, 3, none⟩ _ k (by rintro rfl; rw [h.heap] at hk; cases hk)
  · have hlen := (Nm.labs_of_valid hv).2.2.2
    cases sq
    · have HS : Hid (S.name n false = S.put n) := Lib.hid (by unfold WS.name; rw [if_neg (by simp [hv]), if_neg (by simp)])
      have HV := Lib.hid hv
      have HW := Lib.hid h
      have HL := Lib.hid hlen
      obtain ⟨cp, w3, hcv, hrd, hb3⟩ := conv_bytes w n
      have HRD := Lib.hid hrd
      have HB3 := Lib.hid hb3
      clear h hv hlen hrd hb3
      go_enter Try.func47, Try.ntmps47
      go_wp2_with (first
        | (go_at_call 74; refine (valid_any n _ hn).mono ?_; rw [HV.out]; rintro e w' ⟨rfl, rfl⟩)
        | (go_at_call 76; refine (bytes_any B S f n _ w3 (HW.out.below HB3.out) HRD.out (by have := HL.out; omega)).mono ?_; rintro e w4 ⟨rfl, ht4, hw4⟩))
      go_end0
      rw [HS.out]
      refine ⟨rfl, (Turn.of_below HB3.out).then ht4, hw4.widen fun k _ h => ?_⟩
      have := HB3.out.size
      rcases h with h | h
      · exact .inl h
      · exact .inr ⟨by omega, h.2⟩
    · have HS : Hid (S.name n true = S.sq (Nm.labsD n)) := Lib.hid (by unfold WS.name; rw [if_neg (by simp [hv]), if_pos rfl])
      have HV := Lib.hid hv
      have HW := Lib.hid h
      clear h hv hlen
      go_enter Try.func47, Try.ntmps47
      go_wp2_with (first
        | (go_at_call 74; refine (valid_any n _ hn).mono ?_; rw [HV.out]; rintro e w' ⟨rfl, rfl⟩)
        | (go_at_call 75; refine (squeeze_any B S f n _ HW.out HV.out (by omega) (by omega) hT).mono ?_; rintro e w4 ⟨rfl, ht4, hw4⟩))
      go_end0
      rw [HS.out]
      exact ⟨rfl, ht4, hw4⟩

theorem ownB_read {base : Nat} {v : Value} {l : List UInt8} {W : World} (h : OwnE encB 5 base v l W) : ReadB v l W ∧ ∀ ao n c, v = .slice ao n c → n ≤ c := by
  rcases h.2 with ⟨rfl, hn⟩ | ⟨g, cap, cur, rfl, hbg, hh, hnc, hcm, hcs, htake⟩
  · have : l = [] := List.length_eq_zero_iff.1 hn
    subst this
    exact ⟨⟨none, 0, rfl, fun j hj => by simp at hj⟩, fun ao n c e => by cases e; omega⟩
  · exact ⟨⟨some ⟨g, 0, none⟩, cap, rfl, fun j hj => ⟨g, 0, rfl, ownE_cell h hj⟩⟩, fun ao n c e => by cases e; exact hnc⟩

theorem equalIn_slice {P : Program} (w : World) (d : Nat) (t : TypeId) {e : TypeId} (x : Option Addr) (n c : Nat) (h : P.underlying t = some (.slice e)) :
    (Op.equalIn (d + 1) t (.slice x n c) (.slice none 0 0)).run P w = .ok x.isNone w := by
  cases x <;> simp [Op.equalIn, run_underlying h]
theorem eql_slice (W : World) (x : Option Addr) (n c : Nat) : (binOp .eql 22 (.slice x n c) (.slice none 0 0)).run Try.prog W = .ok (.bool x.isNone) W := by
  simp only [binOp]
  simp [Op.equal, Op.maxDepth, equalIn_slice W 9999 22 x n c Try.underlying22]

set_option maxRecDepth 100000 in
set_option maxHeartbeats 2000000 in
theorem bclone_any (l : List UInt8) (bv : Value) (w : World) (hr : ReadB bv l w) (hl : l.length ≤ 1000000) :
    Calls Try.prog 82 #[bv] w fun e w' => ∃ v, e = .returned v ∧ OwnE encB 5 w.heap.size v l w' ∧ Below w.heap.size w w' := by
  have hr' := hr
  obtain ⟨ao, cap, rfl, hc⟩ := hr.form
  cases ao with
  | none =>
    have hn : l = [] := by
      cases l with
      | nil => rfl
      | cons a l2 => obtain ⟨_, _, e, _⟩ := hc 0 (by simp); cases e
    subst hn
    clear hc hr hr'
    have heq := eql_slice w none 0 cap
    go_enter Try.func82, Try.ntmps82
    go_wp2
    go_ret
    exact ⟨_, rfl, ownE_nil _ _ _ _, Below.refl _ _⟩
  | some ad =>
    have HR := Lib.hid hr'
    clear hc hr hr'
    have hown : OwnE encB 5 w.heap.size (.slice (some ⟨w.heap.size, 0, none⟩) 0 0) [] (w.alloc (.cells #[] 5)) :=
      ⟨rfl, .inr ⟨w.heap.size, 0, #[], rfl, Nat.le_refl _, World.alloc_heap_new w _, Nat.le_refl _, by unfold maxLen; omega, rfl, rfl⟩⟩
    have HO := Lib.hid hown
    clear hown
    have heq := eql_slice w (some ad) l.length cap
    go_enter Try.func82, Try.ntmps82
    go_wp2_with (at_builtin; refine wpList_apdB _ rfl _ _ 22 rfl w.heap.size 5 Try.underlying22 infoByte _ [] rfl HO.out _ l rfl (readB_below HR.out ((Below.refl _ _).alloc (Nat.le_refl _) _)) (by simp; omega) (by simp) ?_; intro v1 w1 ho1 ha1 hn1 hl1; have hb1 := ha1.below; obtain ⟨ao1, n1, cp1, rfl⟩ := own_shape ho1; have HO1 := Lib.hid ho1; clear ho1 ha1 hn1 hl1)
    go_ret
    exact ⟨_, rfl, HO1.out, ((Below.refl _ _).alloc (Nat.le_refl _) _).trans hb1⟩

/-- What Out gives. -/
def OutRet (S : WS) (w : World) (e : Ending) (w' : World) : Prop :=
  Below w.heap.size w w' ∧ ((S.bad = true ∨ S.most < (S.size : Int)) → e = .returned (.tuple #[.slice none 0 0, .int .i64 3])) ∧ (¬ (S.bad = true ∨ S.most < (S.size : Int)) → ∃ v, e = .returned (.tuple #[v, .int .i64 0]) ∧ OwnE encB 5 w.heap.size v S.out w')

set_option maxRecDepth 100000 in
set_option maxHeartbeats 2000000 in
theorem out_any (B : Nat) (S : WS) (f : Nat → Prop) (w : World) (h : WrE B S f w) (hl : S.size ≤ 1000000) :
    Calls Try.prog 51 #[.pointer (some ⟨B, 0, none⟩)] w (OutRet S w) := by
  obtain ⟨vo, vm, h⟩ := h
  have c0 := blk_cell h.heap 0 (v := .int .i64 S.most) rfl
  have c1 := blk_cell h.heap 1 (v := .int .i64 (S.size : Int)) rfl
  have c2 := blk_cell h.heap 2 (v := vo) rfl
  have c3 := blk_cell h.heap 3 (v := .bool S.bad) rfl
  have hrd := (ownB_read h.own).1
  have hlen := h.len
  have HRD := Lib.hid hrd
  clear h hrd
  cases hb : S.bad
  · rw [hb] at c3
    by_cases hm : S.most < (S.size : Int)
    · have HN : Hid (S.bad = true ∨ S.most < (S.size : Int)) := Lib.hid (.inr hm)
      clear hb
      go_enter Try.func51, Try.ntmps51
      go_wp2
      go_quiet (fail)
      go_wp2
      go_ret2
      exact ⟨below_drewN (Below.refl _ _) _, fun _ => rfl, fun h => absurd HN.out h⟩
    · have HN : Hid (¬ (S.bad = true ∨ S.most < (S.size : Int))) := Lib.hid (by rw [hb]; simp; omega)
      clear hb
      go_enter Try.func51, Try.ntmps51
      go_wp2
      go_quiet (fail)
      have HRQ : Hid (ReadB vo S.out (w.drewN nq)) := Lib.hid (readB_below HRD.out (below_drewN (Below.refl _ _) nq))
      go_wp2_with (go_at_call 82; refine (bclone_any S.out vo _ HRQ.out (by omega)).mono ?_; rintro e w1 ⟨v, rfl, ho, hb1⟩)
      obtain ⟨ao1, n1, cp1, rfl⟩ := own_shape ho
      go_ret2
      exact ⟨below_drewN (Below.refl _ _) nq |>.trans hb1, fun h => absurd h HN.out, fun _ => ⟨_, rfl, ho⟩⟩
  · rw [hb] at c3
    have HN : Hid (S.bad = true ∨ S.most < (S.size : Int)) := Lib.hid (.inl hb)
    clear hb
    go_enter Try.func51, Try.ntmps51
    go_wp2
    go_quiet (fail)
    go_wp2
    go_ret2
    exact ⟨below_drewN (Below.refl _ _) _, fun _ => rfl, fun h => absurd HN.out h⟩
theorem out_nil (w : World) :
    Calls Try.prog 51 #[.pointer none] w fun e w' => e = .returned (.tuple #[.slice none 0 0, .int .i64 3]) ∧ Below w.heap.size w w' := by
  go_enter Try.func51, Try.ntmps51
  go_wp2
  go_quiet (fail)
  go_wp2
  go_ret2
  exact ⟨rfl, below_drewN (Below.refl _ _) _⟩
theorem bytes_nil (bv : Value) (w : World) :
    Calls Try.prog 76 #[.pointer none, bv] w fun e w' => e = .returned (.tuple #[]) ∧ w = w' := by
  go_enter Try.func76, Try.ntmps76
  go_wp2
  exact bodyPost_ret (results_none rfl _ _ _) rfl ⟨rfl, rfl⟩
theorem two_nil (n : Int) (w : World) :
    Calls Try.prog 48 #[.pointer none, .int .i64 n] w fun e w' => e = .returned (.tuple #[]) ∧ Below w.heap.size w w' := by
  go_enter Try.func48, Try.ntmps48
  go_wp2_with (go_at_call 76; refine (bytes_nil _ _).mono ?_; rintro e w' ⟨rfl, rfl⟩)
  go_end0
  exact ⟨rfl, (Below.refl _ _).alloc (Nat.le_refl _) _⟩
end Go.Proofs.Ytdodamkndigjkaa
