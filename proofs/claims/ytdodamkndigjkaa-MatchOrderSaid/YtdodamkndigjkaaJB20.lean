/- 3 texts put together: Groups, SqMath, GetMath. -/
import Derived.WalkKit
import Derived.Test.YtdodamkndigjkaaJB12
import Derived.Test.YtdodamkndigjkaaJB13
import Derived.Test.YtdodamkndigjkaaJB19
/- The law's groups: as they are walked, as far as is asked. -/
set_option maxRecDepth 100000
namespace Go.Proofs.Ytdodamkndigjkaa
open Go.RowKit Go.Shelf Go.Maps
attribute [local go_sem] Oper.semAt_some

theorem infoH : (Try.prog.info? 55).map (fun i => (i.zero, i.size, i.bytes)) = some (some (.agg #[.string ⟨#[]⟩, .int .i64 0, .slice none 0 0]), 3, 48) := by kernel_rfl
theorem eql_nilS (W : World) (f B : Nat) : (binOp .eql 84 (.func (.func f) #[] #[.pointer (some ⟨B, 0, none⟩)]) .nilFunc).run Try.prog W = .ok (.bool false) W := by
  kernel_rfl
/-- The first ones, as many as is asked: none and more than there are ask for all. -/
def mostOf {α : Type} (l : List α) (z : Int) : List α := if 1 ≤ z ∧ z ≤ l.length then l.take z.toNat else l
def GroupsRet (gs : List Mt.Gr) (z : Int) (w : World) (e : Ending) (w' : World) : Prop := ∃ v L, e = .returned v ∧ GHas 55 w.heap.size v L w' ∧ L.map Ge.gr = mostOf gs z ∧ Below w.heap.size w w'
theorem keepsBk_own {α : Type} {enc : α → List Value} {k : Nat} {e : TypeId} {b B : Nat} {v : Value} {l : List α} {W W' : World} (h : OwnK enc k e b v l W) (hg : W.grownBy W' v.ownBlock) : KeepsBk B W W' :=
  ⟨hg.size, fun j _ _ ho hb => (hg.block j (Array.getElem?_eq_some_iff.1 ho).1 (fun e => own_obj h ho (book_cells hb) e.symm)).trans ho⟩
theorem keepsBk_blk {B C : Nat} {cs : Array Value} {t : TypeId} {W W' : World} (h : Block W C cs t) (hg : W.grownBy W' (some C)) : KeepsBk B W W' :=
  ⟨hg.size, fun j o _ ho hb => (hg.block j (Array.getElem?_eq_some_iff.1 ho).1 (fun e => by
    cases e
    rw [show W.heap[C]? = _ from h] at ho
    cases ho
    cases hb)).trans ho⟩
theorem keepsBk_below {B : Nat} {W W' : World} (hb : Below W.heap.size W W') : KeepsBk B W W' :=
  ⟨hb.size, fun j _ _ ho _ => (hb.block j (Array.getElem?_eq_some_iff.1 ho).1).trans ho⟩

set_option maxHeartbeats 16000000 in
theorem groups_any (l : List Rd.RR) (z : Int) (sv : Value) (w : World) (hr : ReadR sv l w) (hf : ∀ r ∈ l, Fine r) (hl : l.length ≤ 100000) (hz : -9223372036854775808 ≤ z ∧ z ≤ 9223372036854775807) :
    Calls Try.prog 22 #[sv, .int .i64 z] w (GroupsRet (Mt.sets l) z w) := by
  have b1 := ((Below.refl w.heap.size w).alloc (Nat.le_refl _) (.cells #[.int .i64 z] 3)).alloc (by simp) (.cells #[.slice none 0 0] 43)
  have k3 := blk_f1 w #[.int .i64 z] 3 (.cells #[.slice none 0 0] 43)
  have k5 := blk_f2 w (.cells #[.int .i64 z] 3) #[.slice none 0 0] 43
  have HS := Lib.hid (sets_any l sv _ (readR_below hr b1) hf hl)
  have hgl := Mt.sets_len l
  have hrl := Mt.rrs_len l
  obtain ⟨ao, cap, rfl, _⟩ := hr.form
  have hs1 : ((w.alloc (.cells #[.int .i64 z] 3)).alloc (.cells #[.slice none 0 0] 43)).heap.size = w.heap.size + 2 := by simp
  have HB1 := Lib.hid b1
  have K3 := Lib.hid k3
  have K5 := Lib.hid k5
  have HGL := Lib.hid hgl
  have HRL := Lib.hid hrl
  clear hr hf b1 k3 k5 hgl hrl
  refine (callsIn_wide (n := 20)).1 ?_
  refine callsIn_of_wp_marks Try.func22 rfl trivial ?_ rfl
  simp only [Try.ntmps22, List.size_toArray, List.length_cons, List.length_nil, Nat.reduceAdd, Nat.reduceSub, Array.replicate_succ, Array.replicate_zero, List.push_toArray, List.append_toArray, List.nil_append, List.cons_append]
  have hF : Fence.wide.fn 42 := trivial
  gi_wp2_with fail
  generalize ((w.alloc (.cells #[.int .i64 z] 3)).alloc (.cells #[.slice none 0 0] 43)) = w1 at HS HB1 K3 K5 hs1 ⊢
  refine (callsIn_wide.2 HS.out).mono ?_
  rintro e w2 ⟨RB, gv, GL, rfl, hRB, hBR, hGH, hmap, b2⟩
  have hnil := fun W => eql_nilS W 71 RB
  have hs2 := b2.size
  have HB2 : Hid (Below w.heap.size w w2) := Lib.hid (HB1.out.trans (b2.mono (by omega)))
  have K32 := Lib.hid (K3.out.below b2)
  have K52 := Lib.hid (K5.out.below b2)
  have HBR := Lib.hid hBR
  have HGH := Lib.hid hGH
  have HMAP := Lib.hid hmap
  obtain ⟨M5, hM5⟩ : ∃ M, w.heap.size + 1 = M := ⟨_, rfl⟩
  obtain ⟨M3, hM3⟩ : ∃ M, w.heap.size = M := ⟨_, rfl⟩
  rw [hM5] at K52 ⊢
  rw [hM3] at hM5 HB2 K32 hs1 ⊢
  clear HS HB1 K3 K5 hBR hGH hmap b2
  gi_wp2_with fail
  have hGLl : GL.length ≤ 100000 := by have := congrArg List.length HMAP.out; rw [List.length_map] at this; have := HGL.out; omega
  have hGLr : ∀ g ∈ GL, g.rrs.length ≤ 100000 := fun g hg => by
    have := HRL.out g.gr (by rw [← HMAP.out]; exact List.mem_map.2 ⟨g, hg, rfl⟩)
    simp only [Ge.gr] at this
    omega
  have hK32 := K32.out.lt
  have hK52 := K52.out.lt
  have hM35 : M3 ≠ M5 := by omega
  refine wpIn_rangeFunc_oneY rfl (by omega) (gf := 71) (lb := #[.pointer (some ⟨RB, 0, none⟩)]) (by rfl) trivial (enters_of Try.func71 (by kernel_rfl) rfl)
    (Y := fun (x : Ge) (W : World) => OwnK encRR 5 51 w2.heap.size x.v x.rrs W) (fun (x : Ge) X Y row (h : OwnK encRR 5 51 w2.heap.size x.v x.rrs X) hg hr => ownK_obj h hg (fun r e => bookC (hr r e).2))
    (sets_stops (20 - 1) (by omega) RB w1.heap.size gv GL w2 hGLl hGLr HBR.out HGH.out _ (Nat.le_refl _)) kg_t (fun W l o o' _ h1 h2 _ hG => GHas.obj (row := some l) hG (grownBy_putObj' W l o') (fun r e => by cases e; exact ⟨o, h1, h2⟩)) (Below.refl _ _) (fun _ => rfl)
    (fun pre W => ∃ v, Block W M5 #[v] 43 ∧ GHas 55 w2.heap.size v pre W ∧ Block W M3 #[.int .i64 z] 3 ∧ Below M3 w W ∧ (z ≤ 0 ∨ (pre.length : Int) < z) ∧ w2.heap.size ≤ W.heap.size)
    (fun c pre W => c = .exit 0 ∧ (pre.length : Int) = z ∧ 1 ≤ pre.length ∧ ∃ v, Block W M5 #[v] 43 ∧ GHas 55 w2.heap.size v pre W ∧ Below M3 w W ∧ w2.heap.size ≤ W.heap.size)
    (fun pre X Y row h hg hr => by
      obtain ⟨v, g1, g2, g3, g4, g5, g6⟩ := h
      exact ⟨v, block_grown g1 hg (fun e => by have := (hr _ e).1; omega), g2.obj hg (fun r e => bookC (hr r e).2), block_grown g3 hg (fun e => by have := (hr _ e).1; omega), g4.grown hg (by have := g4.size; omega) (fun r e => by have := (hr r e).1; omega), g5, by have := hg.size; omega⟩)
    (fun c pre X Y row h hg hr => by
      obtain ⟨g0, gz, g5, v, g1, g2, g4, g6⟩ := h
      exact ⟨g0, gz, g5, v, block_grown g1 hg (fun e => by have := (hr _ e).1; omega), g2.obj hg (fun r e => bookC (hr r e).2), g4.grown hg (by have := g4.size; omega) (fun r e => by have := (hr r e).1; omega), by have := hg.size; omega⟩)
    ⟨_, K52.out, ⟨ownK_nil _ _ _ _ _, fun i hi => by simp at hi⟩, K32.out, HB2.out, by show z ≤ 0 ∨ (0 : Int) < z; omega, Nat.le_refl _⟩ ?a1 (fun x => .cells #[.string ⟨x.name.toArray⟩, .int .i64 x.typ] 53) (fun W o hG => hG.below ((Below.refl _ _).alloc (Nat.le_refl _) _)) ?assign ?body (fun _ _ h => h)
    (fun W => ∃ v L, Block W M5 #[v] 43 ∧ GHas 55 w2.heap.size v L W ∧ L.map Ge.gr = mostOf (Mt.sets l) z ∧ Below M3 w W ∧ w2.heap.size ≤ W.heap.size)
    ?done ?stop ?end1
  case assign =>
    intro l x W KK hK
    simp only [encY, keyV]
    gi_wp2_with fail
    exact hK
  case body =>
    as_aux_lemma =>
    rintro l1 pre x W0 W hlt hbx ⟨v, hB5, hG, hB3, hbel, hzz, hsz⟩ hown hlen hsp
    have hBX : Block W W0.heap.size #[.string ⟨x.name.toArray⟩, .int .i64 x.typ] 53 := hbx
    obtain ⟨Q, hQ⟩ : ∃ Q, W0.heap.size = Q := ⟨_, rfl⟩
    rw [hQ] at hBX hlt ⊢
    obtain ⟨xa, xc, hxv, _⟩ := ownK_form hown
    obtain ⟨va, vc, rfl, _⟩ := ownK_form hG.row
    have q0 := hBX.cell (i := 0) rfl
    have q1 := hBX.cell (i := 1) rfl
    have e5 := hB5.cell (i := 0) rfl
    have e3 := hB3.cell (i := 0) rfl
    have HXV := Lib.hid hxv
    simp only [hxv]
    have hpl : pre.length ≤ 100000 := by omega
    have HG := Lib.hid hG
    have HOW := Lib.hid hown
    clear hbx hQ hown hG hxv
    gi_wp2_with (first
      | (gi_at_builtin; refine wpListIn_apk _ rfl _ _ 43 rfl encG 3 encG_len (by omega) encG_one w2.heap.size 55 _ 48 Try.underlying43 infoH rfl _ pre rfl (ownK_alloc HG.out.row _) ⟨_, 0, none⟩ 1 1 [x] rfl rfl (infoOne x _ _ _ (by unfold encG; rw [HXV.out]; exact Block.new _ _ _)) (by omega) (by omega) (by simp; omega) ?_; intro v4 w4 ho4 hg4 hv4; refine Hid.out ?_))
    refine Lib.hid ?_
    have bA := (Below.refl W.heap.size W).alloc (Nat.le_refl _) (.cells #[.string ⟨x.name.toArray⟩, .int .i64 x.typ, .slice xa x.rrs.length xc] 55)
    have hrow := HG.out.below bA
    have hown4 := ownK_below HOW.out bA
    have hB5A := hB5.below bA
    have hB3A := hB3.below bA
    have hne5 := own_blk hrow.row hB5A (by decide)
    have hne3 := own_blk hrow.row hB3A (by decide)
    have hB54 := block_grown hB5A hg4 hne5
    have hB34 := block_grown hB3A hg4 hne3
    have hs4 := hg4.size
    have hnb : ∀ j, (Value.slice va pre.length vc).ownBlock = some j → w2.heap.size ≤ j := fun j e => (World.ownsRow.lt hrow.row j e).1
    have hG4 : GHas 55 w2.heap.size v4 (pre ++ [x]) w4 := ⟨ho4, fun i hi => by
      by_cases hl : i < pre.length
      · rw [List.getElem_append_left hl]
        exact ownK_grown (hrow.each i hl) hg4 (fun g e1 e2 => own_apart hrow.row (hrow.each i hl) (by decide) g e2 e1)
      · have e : (pre ++ [x])[i] = x := by
          rw [List.getElem_append_right (by omega)]
          have : i - pre.length = 0 := by rw [List.length_append, List.length_singleton] at hi; omega
          simp [this]
        rw [e]
        exact ownK_grown hown4 hg4 (fun g e1 e2 => own_apart hrow.row hown4 (by decide) g e2 e1)⟩
    have hKG4 : KG w1.heap.size gv GL W w4 := fun h => (h.below bA).apd hrow.row (by decide) (by decide) hg4
    have hkb4 : KeepsBk w2.heap.size W w4 := (keepsBk_below bA).trans (keepsBk_own hrow.row hg4)
    have hbel4 : Below M3 w w4 := (hbel.trans (bA.mono (by have := hbel.size; omega))).grown hg4 (by have := hbel.size; simp; omega) (fun j e => by have := hnb j e; omega)
    obtain ⟨a4, c4, rfl, _⟩ := ownK_form ho4
    rw [show (pre ++ [x]).length = pre.length + 1 by rw [List.length_append]; rfl] at hG4 ⊢
    have gS := grown_st w4 M5 0 (.slice a4 (pre.length + 1) c4)
    have hG5 := hG4.box (by decide) hB54 (by decide) (by decide) gS
    have hB55 := hB54.setL 0 (.slice a4 (pre.length + 1) c4)
    have hB35 := hB34.other hM35 0 (.slice a4 (pre.length + 1) c4)
    have hKG5 : KG w1.heap.size gv GL W (w4.setCell ⟨M5, 0, none⟩ (.slice a4 (pre.length + 1) c4)) := fun h => (hKG4 h).box (by decide) hB54 (by decide) (by decide) gS
    have hkb5 := hkb4.trans (keepsBk_blk (B := w2.heap.size) hB54 gS)
    have hbel5 := hbel4.grown gS (by have := hbel4.size; omega) (fun j e => by cases e; omega)
    have hs5 := gS.size
    have y5 := hB54.cell (i := 0) rfl
    have yf := hB54.frozen 0
    have z3 := hB35.cell (i := 0) rfl
    simp only [List.set_cons_zero] at hB55
    have hsA := bA.size
    have HG5 := Lib.hid hG5
    have HB55 := Lib.hid hB55
    have HB35 := Lib.hid hB35
    have HKG5 := Lib.hid hKG5
    have HKB5 := Lib.hid hkb5
    have HBE5 := Lib.hid hbel5
    clear ho4 hg4 hv4 hrow hown4 hB5A hB3A hne5 hne3 hB34 hnb hG4 hKG4 hkb4 hbel4 gS hG5 hB55 hB35 hKG5 hkb5 hbel5 hB5 hB3 e5 e3 q0 q1
    by_cases hq : ((pre.length : Int) + 1 = z)
    · have hqb : (((pre.length : Int) + 1) == z) = true := by simpa using hq
      gi_wp2_with fail
      exact ⟨HKB5.out, rfl, by rw [List.length_append, List.length_singleton]; omega, by rw [List.length_append, List.length_singleton]; omega, _, HB55.out, HG5.out, HBE5.out, by omega⟩
    · have hqb : (((pre.length : Int) + 1) == z) = false := by simpa using hq
      gi_wp2_with fail
      exact ⟨HKB5.out, HKG5.out, _, HB55.out, HG5.out, HB35.out, HBE5.out, by rw [List.length_append, List.length_singleton]; omega, by omega⟩
  case done =>
    rintro ys W hS2 ⟨v, g1, g2, g3, g4, g5, g6⟩
    refine ⟨v, ys, g1, g2, ?_, g4, g6⟩
    have hlen : ys.length = (Mt.sets l).length := by rw [← HMAP.out, ← hS2, List.length_map]
    rw [hS2, HMAP.out]
    unfold mostOf
    rw [if_neg (by omega)]
  case stop =>
    rintro c pre W hSp ⟨rfl, gz, g5, v, g1, g2, g4, g6⟩
    refine ⟨rfl, v, pre, g1, g2, ?_, g4, g6⟩
    have hpl := hSp.length_le
    rw [List.length_map, HMAP.out] at hpl
    have := List.prefix_iff_eq_take.1 hSp
    rw [this, HMAP.out, List.length_map]
    unfold mostOf
    rw [if_pos (by omega)]
    congr 1
    omega
  case end1 =>
    rintro D W hD ⟨v, L, g1, g2, g3, g4, g6⟩ hDK
    have e5 := g1.cell (i := 0) rfl
    obtain ⟨va, vc, rfl, _⟩ := ownK_form g2.row
    gi_wp2_with fail
    refine ⟨by simp, .inl ⟨_, _, rfl, run_takeDeferred hDK, ?_⟩⟩
    refine ⟨_, results_tmp rfl _ _ _, _, L, rfl, ?_, g3, ?_⟩
    · rw [hM3]
      exact GHas.obj (row := some D) (g2.mono (by omega)) (grownBy_putObj' W D _) (fun r e => by cases e; exact ⟨_, hDK, rfl⟩)
    · rw [hM3]
      exact g4.grown (grownBy_putObj' W D _) (by omega) (fun r e => by cases e; omega)
end Go.Proofs.Ytdodamkndigjkaa

/- What squeeze comes to, in sizes: plain mathematics. -/
namespace Go.Proofs.Ytdodamkndigjkaa

theorem look_note {S : WS} {k : List UInt8} (h : S.size < 16384) (x : List UInt8) : look x (S.note k).tab = if k = x then some S.size else look x S.tab := by
  unfold WS.note
  rw [if_neg (by omega)]
  rfl
theorem look_note_ne {S : WS} {k x : List UInt8} (h : k.length ≠ x.length) : look x (S.note k).tab = look x S.tab := by
  unfold WS.note
  split
  · rfl
  · simp only [look]
    rw [if_neg (fun e => h (by rw [e]))]
theorem look_put (S : WS) (b x : List UInt8) : look x (S.put b).tab = look x S.tab := rfl
theorem made_lt {t : List (List UInt8)} {l : List UInt8} {r : List (List UInt8)} (h : t <:+ r) : (Nm.made t).length < (Nm.made (l :: r)).length := by
  obtain ⟨s, rfl⟩ := h
  rw [Nm.made_length, Nm.made_length]
  simp only [Nm.encL, Nm.encL_append]
  omega
/-- None of it was written: it is written whole, and each of its ends can be pointed to. -/
theorem sq_fresh : ∀ (ls : List (List UInt8)) (S : WS), (∀ t, t <:+ ls → t ≠ [] → look (Nm.made t) S.tab = none) → S.size + Nm.encL ls < 16384 →
    (S.sq ls).size = S.size + Nm.encL ls + 1 ∧ (∀ t, t <:+ ls → t ≠ [] → (look (Nm.made t) (S.sq ls).tab).isSome = true) ∧ (∀ k, (Nm.made ls).length < k.length → look k (S.sq ls).tab = look k S.tab) ∧ (S.sq ls).tab.length ≤ S.tab.length + ls.length
  | [], S, _, _ => ⟨by simp [WS.sq, WS.put, Nm.encL], fun t h hn => absurd (List.suffix_nil.1 h) hn, fun k _ => rfl, by simp [WS.sq, WS.put]⟩
  | l :: r, S, h, hs => by
    simp only [Nm.encL] at hs
    have h0 := h (l :: r) (List.suffix_refl _) (by simp)
    rw [WS.sq, h0]
    simp only
    have hsz : ((S.note (Nm.made (l :: r))).put (UInt8.ofNat l.length :: l)).size = S.size + (1 + l.length) := by
      show (S.note _).size + _ = _
      rw [note_size]
      simp only [List.length_cons]
      omega
    obtain ⟨i1, i2, i3, i4⟩ := sq_fresh r ((S.note (Nm.made (l :: r))).put (UInt8.ofNat l.length :: l)) (fun t ht hn => by
      rw [look_put, look_note_ne (by have := made_lt (l := l) ht; omega)]
      exact h t (ht.trans (List.suffix_cons _ _)) hn) (by rw [hsz]; omega)
    refine ⟨by rw [i1, hsz]; simp only [Nm.encL]; omega, fun t ht hn => ?_, fun k hk => ?_, ?_⟩
    · rcases List.suffix_cons_iff.1 ht with rfl | ht
      · rw [i3 _ (made_lt (List.suffix_refl _)), look_put, look_note (by omega), if_pos rfl]; rfl
      · exact i2 t ht hn
    · have := made_lt (l := l) (List.suffix_refl r)
      rw [i3 k (by omega), look_put, look_note_ne (by omega)]
    · have h5 := note_tab S (Nm.made (l :: r))
      have h6 : ((S.note (Nm.made (l :: r))).put (UInt8.ofNat l.length :: l)).tab.length ≤ S.tab.length + 1 := h5
      simp only [List.length_cons]
      omega
/-- It was written: a pointer. -/
theorem sq_known {S : WS} {l : List UInt8} {r : List (List UInt8)} (h : (look (Nm.made (l :: r)) S.tab).isSome = true) : (S.sq (l :: r)).size = S.size + 2 ∧ (S.sq (l :: r)).tab = S.tab := by
  obtain ⟨k, hk⟩ := Option.isSome_iff_exists.1 h
  rw [WS.sq, hk]
  exact ⟨by simp [WS.put, two_len], rfl⟩
theorem sq_root (S : WS) : (S.sq []).size = S.size + 1 ∧ (S.sq []).tab = S.tab := ⟨by simp [WS.sq, WS.put], rfl⟩
/-- A label ahead of what was written. -/
theorem sq_ahead {S : WS} {m l : List UInt8} {r : List (List UInt8)} (h0 : look (Nm.made (m :: l :: r)) S.tab = none) (h : (look (Nm.made (l :: r)) S.tab).isSome = true) (hs : S.size < 16384) :
    (S.sq (m :: l :: r)).size = S.size + (1 + m.length) + 2 ∧ (look (Nm.made (m :: l :: r)) (S.sq (m :: l :: r)).tab).isSome = true ∧ (S.sq (m :: l :: r)).tab.length ≤ S.tab.length + 1 := by
  rw [WS.sq, h0]
  simp only
  have h1 : (look (Nm.made (l :: r)) ((S.note (Nm.made (m :: l :: r))).put (UInt8.ofNat m.length :: m)).tab).isSome = true := by
    rw [look_put, look_note_ne (by have := made_lt (l := m) (List.suffix_refl (l :: r)); omega)]
    exact h
  obtain ⟨e1, e2⟩ := sq_known h1
  rw [e1, e2]
  refine ⟨?_, ?_, ?_⟩
  · show (S.note _).size + _ + 2 = _
    rw [note_size]
    simp only [List.length_cons]
    omega
  · rw [look_put, look_note hs, if_pos rfl]; rfl
  · exact note_tab S _
end Go.Proofs.Ytdodamkndigjkaa

/- Plain mathematics of names within messages: where labels end, pointers, the name that begins at a place. -/
namespace Go.Proofs.Ytdodamkndigjkaa.Wn

/-- The place of what ends the labels from k on, with fuel: a 0, or a pointer's first byte. -/
def eolF (b : List UInt8) : Nat → Nat → Option Nat
  | 0, _ => none
  | f + 1, k => match b[k]? with
    | none => none
    | some c => if c.toNat = 0 ∨ 192 ≤ c.toNat then some k else if 63 < c.toNat then none else eolF b f (k + (1 + c.toNat))
theorem eolF_fuel (b : List UInt8) : ∀ (f g k : Nat), b.length < f + k → b.length < g + k → eolF b f k = eolF b g k
  | 0, 0, _, _, _ => rfl
  | 0, g + 1, k, h, _ => by simp [eolF, List.getElem?_eq_none (show b.length ≤ k by omega)]
  | f + 1, 0, k, _, h => by simp [eolF, List.getElem?_eq_none (show b.length ≤ k by omega)]
  | f + 1, g + 1, k, h, h' => by
    simp only [eolF]
    split
    · rfl
    · rw [eolF_fuel b f g _ (by omega) (by omega)]
def eol (b : List UInt8) (k : Nat) : Option Nat := eolF b (b.length + 1) k
theorem eol_none {b : List UInt8} {k : Nat} (h : b.length ≤ k) : eol b k = none := by
  simp [eol, eolF, List.getElem?_eq_none h]
theorem eol_at {b : List UInt8} {k : Nat} (h : k < b.length) : eol b k = if b[k].toNat = 0 ∨ 192 ≤ b[k].toNat then some k else if 63 < b[k].toNat then none else eol b (k + (1 + b[k].toNat)) := by
  unfold eol
  conv => lhs; rw [eolF]
  rw [List.getElem?_eq_getElem h]
  show (if _ then _ else _) = _
  split
  · rfl
  · split
    · rfl
    · exact eolF_fuel b _ _ _ (by omega) (by omega)
theorem eol_end {b : List UInt8} {k : Nat} (h : k < b.length) (hc : b[k].toNat = 0 ∨ 192 ≤ b[k].toNat) : eol b k = some k := by rw [eol_at h, if_pos hc]
theorem eol_bad {b : List UInt8} {k : Nat} (h : k < b.length) (h1 : 63 < b[k].toNat) (h2 : b[k].toNat < 192) : eol b k = none := by
  rw [eol_at h, if_neg (by omega), if_pos h1]
theorem eol_step {b : List UInt8} {k : Nat} (h : k < b.length) (h0 : b[k].toNat ≠ 0) (h1 : b[k].toNat ≤ 63) : eol b k = eol b (k + (1 + b[k].toNat)) := by
  rw [eol_at h, if_neg (by omega), if_neg (by omega)]
theorem eolF_some (b : List UInt8) : ∀ (f k : Nat) {e : Nat}, eolF b f k = some e → k ≤ e ∧ ∃ h : e < b.length, (b[e].toNat = 0 ∨ 192 ≤ b[e].toNat)
  | 0, _, _, h => by cases h
  | f + 1, k, e, h => by
    simp only [eolF] at h
    split at h
    · cases h
    · rename_i c hc
      obtain ⟨hk, rfl⟩ := List.getElem?_eq_some_iff.1 hc
      split at h
      · rename_i h1
        cases h
        exact ⟨Nat.le_refl _, hk, h1⟩
      · split at h
        · cases h
        · have := eolF_some b f _ h
          exact ⟨by omega, this.2⟩
theorem eol_some {b : List UInt8} {k e : Nat} (h : eol b k = some e) : k ≤ e ∧ ∃ h : e < b.length, (b[e].toNat = 0 ∨ 192 ≤ b[e].toNat) := eolF_some b _ _ h

/-- The place to which the pointer at k goes. -/
def ptr (b : List UInt8) (k : Nat) : Option Nat := match b[k]?, b[k + 1]? with
  | some c, some d => some ((c.toNat - 192) * 256 + d.toNat)
  | _, _ => none
theorem ptr_none {b : List UInt8} {k : Nat} (h : b.length ≤ k + 1) : ptr b k = none := by
  unfold ptr
  rw [List.getElem?_eq_none h]
  cases b[k]? <;> rfl
theorem ptr_some {b : List UInt8} {k : Nat} (h : k + 1 < b.length) : ptr b k = some ((b[k].toNat - 192) * 256 + b[k + 1].toNat) := by
  unfold ptr
  rw [List.getElem?_eq_getElem h, List.getElem?_eq_getElem (show k < b.length by omega)]

/-- What stands from a place to another. -/
def part (b : List UInt8) (p e : Nat) : List UInt8 := (b.drop p).take (e - p)
theorem part_length {b : List UInt8} {p e : Nat} (h : e ≤ b.length) : (part b p e).length = e - p := by
  unfold part; rw [List.length_take, List.length_drop]; omega

/-- The name that begins at p, however long it is, and where it ends. -/
def getF (b : List UInt8) : Nat → Nat → Option (List UInt8 × Nat)
  | 0, _ => none
  | f + 1, p => match eol b p with
    | none => none
    | some e => if b[e]?.getD 0 = 0 then some (part b p e ++ [0], e + 1) else match ptr b e with
      | none => none
      | some t => if t < p then (getF b f t).map (fun r => (part b p e ++ r.1, e + 2)) else none
theorem getF_fuel (b : List UInt8) : ∀ (f g p : Nat), p < f → p < g → getF b f p = getF b g p
  | 0, _, _, h, _ => by omega
  | _, 0, _, _, h => by omega
  | f + 1, g + 1, p, h, h' => by
    simp only [getF]
    split
    · rfl
    · split
      · rfl
      · split
        · rfl
        · split
          · rw [getF_fuel b f g _ (by omega) (by omega)]
          · rfl
def getU (b : List UInt8) (p : Nat) : Option (List UInt8 × Nat) := getF b (p + 1) p
theorem getU_none {b : List UInt8} {p : Nat} (h : eol b p = none) : getU b p = none := by unfold getU; rw [getF, h]
theorem getU_zero {b : List UInt8} {p e : Nat} (h : eol b p = some e) (he : e < b.length) (h0 : b[e] = 0) : getU b p = some (part b p e ++ [0], e + 1) := by
  unfold getU
  rw [getF, h]
  simp only
  rw [List.getElem?_eq_getElem he, Option.getD_some, if_pos h0]
theorem getU_ptr {b : List UInt8} {p e : Nat} (h : eol b p = some e) (he : e < b.length) (h0 : b[e] ≠ 0) : getU b p = match ptr b e with
    | none => none
    | some t => if t < p then (getU b t).map (fun r => (part b p e ++ r.1, e + 2)) else none := by
  unfold getU
  rw [getF, h]
  simp only
  rw [List.getElem?_eq_getElem he, Option.getD_some, if_neg h0]
  cases ptr b e with
  | none => rfl
  | some t =>
    simp only
    split
    · rw [getF_fuel b p (t + 1) t (by omega) (by omega)]
    · rfl

/-- What was read, and what is read behind it. -/
def fin (read : List UInt8) (nx : Nat) : Option (List UInt8 × Nat) → Option (List UInt8 × Nat)
  | none => none
  | some (n, k) => if (read ++ n).length ≤ 255 then some (read ++ n, if nx = 0 then k else nx) else none
theorem fin_yes {read n : List UInt8} {nx k : Nat} (h : (read ++ n).length ≤ 255) : fin read nx (some (n, k)) = some (read ++ n, if nx = 0 then k else nx) := if_pos h
theorem fin_no {read n : List UInt8} {nx k : Nat} (h : ¬ (read ++ n).length ≤ 255) : fin read nx (some (n, k)) = none := if_neg h
def get (b : List UInt8) (z : Int) : Option (List UInt8 × Nat) := if z < 0 then none else fin [] 0 (getU b z.toNat)
theorem get_neg {b : List UInt8} {z : Int} (h : z < 0) : get b z = none := if_pos h
theorem get_nat (b : List UInt8) (p : Nat) : get b (p : Int) = fin [] 0 (getU b p) := by
  unfold get
  rw [if_neg (by omega)]
  rfl
theorem fin_long {read : List UInt8} {nx : Nat} {b : List UInt8} {p e : Nat} (h : eol b p = some e) (hl : 255 ≤ read.length + (e - p)) : fin read nx (getU b p) = none := by
  obtain ⟨h1, he, _⟩ := eol_some h
  have hp : (part b p e).length = e - p := part_length (by omega)
  by_cases h0 : b[e] = 0
  · rw [getU_zero h he h0]
    exact fin_no (by simp only [List.length_append, List.length_singleton]; omega)
  · rw [getU_ptr h he h0]
    cases ptr b e with
    | none => rfl
    | some t =>
      simp only
      split
      · cases hg : getU b t with
        | none => rfl
        | some r =>
          have hr : 1 ≤ r.1.length := by
            unfold getU getF at hg
            split at hg
            · cases hg
            · split at hg
              · cases hg; simp
              · split at hg
                · cases hg
                · split at hg
                  · obtain ⟨r', h', rfl⟩ := Option.map_eq_some_iff.1 hg
                    have : 1 ≤ r'.1.length := getF_pos b _ _ h'
                    simp only [List.length_append]; omega
                  · cases hg
          exact fin_no (by simp only [List.length_append]; omega)
      · rfl
where
  getF_pos (b : List UInt8) : ∀ (f p : Nat) {r : List UInt8 × Nat}, getF b f p = some r → 1 ≤ r.1.length
    | 0, _, _, h => by cases h
    | f + 1, p, r, h => by
      simp only [getF] at h
      split at h
      · cases h
      · split at h
        · cases h; simp
        · split at h
          · cases h
          · split at h
            · obtain ⟨r', h', rfl⟩ := Option.map_eq_some_iff.1 h
              have := getF_pos b f _ h'
              simp only [List.length_append]; omega
            · cases h
theorem fin_zero {read : List UInt8} {nx : Nat} {b : List UInt8} {p e : Nat} (h : eol b p = some e) (he : e < b.length) (h0 : b[e] = 0) (hl : ¬ 255 ≤ read.length + (e - p)) :
    fin read nx (getU b p) = some (read ++ part b p e ++ [0], if nx = 0 then e + 1 else nx) := by
  have hp : (part b p e).length = e - p := part_length (by omega)
  rw [getU_zero h he h0, fin_yes (by simp only [List.length_append, List.length_singleton]; omega), List.append_assoc]
theorem fin_noptr {read : List UInt8} {nx : Nat} {b : List UInt8} {p e : Nat} (h : eol b p = some e) (he : e < b.length) (h0 : b[e] ≠ 0) (hp : ptr b e = none) : fin read nx (getU b p) = none := by
  rw [getU_ptr h he h0, hp]; rfl
theorem fin_ahead {read : List UInt8} {nx : Nat} {b : List UInt8} {p e t : Nat} (h : eol b p = some e) (he : e < b.length) (h0 : b[e] ≠ 0) (hp : ptr b e = some t) (ht : p ≤ t) : fin read nx (getU b p) = none := by
  rw [getU_ptr h he h0, hp]
  simp only
  rw [if_neg (by omega)]; rfl
theorem fin_step {read : List UInt8} {nx : Nat} {b : List UInt8} {p e t : Nat} (h : eol b p = some e) (he : e < b.length) (h0 : b[e] ≠ 0) (hp : ptr b e = some t) (ht : t < p) :
    fin read nx (getU b p) = fin (read ++ part b p e) (if nx = 0 then e + 2 else nx) (getU b t) := by
  rw [getU_ptr h he h0, hp]
  simp only
  rw [if_pos ht]
  cases getU b t with
  | none => rfl
  | some r =>
    simp only [Option.map_some, fin, List.append_assoc]
    by_cases hn : nx = 0
    · simp [hn]
    · simp [hn]
end Go.Proofs.Ytdodamkndigjkaa.Wn
