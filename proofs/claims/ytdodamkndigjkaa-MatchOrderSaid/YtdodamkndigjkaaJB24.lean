/- 2 texts put together: Msgs, Reply. -/
import Derived.WalkKit
import Derived.Test.YtdodamkndigjkaaJB16
import Derived.Test.YtdodamkndigjkaaJB22
import Derived.Test.YtdodamkndigjkaaJB23
/- Messages that are asked and told: Ask, Refuse, Reply. -/
set_option maxRecDepth 100000
namespace Go.Proofs.Ytdodamkndigjkaa
open Go.RowKit Go.Shelf Go.Maps
attribute [local go_sem] Oper.semAt_some

namespace Mt
def ask (id : Int) (q : Ms.Q) : Ms.M := ⟨bits .and .i64 id 65535, false, 0, false, false, false, false, 0, [q], [], [], [], true, 1232⟩
def refuse (m : Ms.M) (code : Int) : Ms.M := ⟨m.id, true, m.opc, false, false, m.des, true, code, m.qs, [], [], [], m.edns, if m.edns then 1232 else 0⟩
def reply (m : Ms.M) (code : Int) (a s : List Rd.RR) : Ms.M := ⟨m.id, true, m.opc, false, false, m.des, true, code, m.qs, a, s, [], m.edns, if m.edns then 1232 else 0⟩
end Mt
/-- Lists of the call's own. -/
structure OwnL (b : Nat) (m : Ms.M) (vq va vn vd : Value) (W : World) : Prop where
  qs : OwnK encQ 3 36 b vq m.qs W
  an : OwnK encRR 5 51 b va m.an W
  ns : OwnK encRR 5 51 b vn m.ns W
  ad : OwnK encRR 5 51 b vd m.ad W
theorem OwnL.lists {b : Nat} {m : Ms.M} {vq va vn vd : Value} {W : World} (h : OwnL b m vq va vn vd W) : Lists m vq va vn vd W := ⟨readQ_own h.qs, readR_own h.an, readR_own h.ns, readR_own h.ad⟩
theorem OwnL.below {b : Nat} {m : Ms.M} {vq va vn vd : Value} {W W' : World} (h : OwnL b m vq va vn vd W) (hb : Below W.heap.size W W') : OwnL b m vq va vn vd W' :=
  ⟨ownK_below h.qs hb, ownK_below h.an hb, ownK_below h.ns hb, ownK_below h.ad hb⟩
theorem OwnL.box {b : Nat} {m : Ms.M} {vq va vn vd : Value} {W W' : World} (h : OwnL b m vq va vn vd W) {B : Nat} {cs : Array Value} (hB : Block W B cs 27) (hg : W.grownBy W' (some B)) : OwnL b m vq va vn vd W' :=
  ⟨ownK_grown h.qs hg (fun g e1 e2 => by cases e2; exact own_blk h.qs hB (by decide) e1), ownK_grown h.an hg (fun g e1 e2 => by cases e2; exact own_blk h.an hB (by decide) e1), ownK_grown h.ns hg (fun g e1 e2 => by cases e2; exact own_blk h.ns hB (by decide) e1), ownK_grown h.ad hg (fun g e1 e2 => by cases e2; exact own_blk h.ad hB (by decide) e1)⟩
/-- A message that is handed back. -/
def MsgRet (m : Ms.M) (w : World) (e : Ending) (w' : World) : Prop := ∃ vq va vn vd, e = .returned (msgV m vq va vn vd) ∧ OwnL w.heap.size m vq va vn vd w' ∧ Below w.heap.size w w'
theorem readQ_blk1 {W : World} {g : Nat} {q : Ms.Q} (h : Block W g (encQ q).toArray 36) : ReadQ (.slice (some ⟨g, 0, none⟩) 1 1) [q] W :=
  ⟨_, _, rfl, fun j hj => by
    have hj0 : j = 0 := by simp at hj; exact hj
    subst hj0
    exact ⟨g, 0, rfl, h.cell (i := 0) rfl, h.cell (i := 1) rfl, h.cell (i := 2) rfl⟩⟩

theorem blk_at1 (w : World) (o1 : Obj) (cs : Array Value) (t : TypeId) : Block ((w.alloc o1).alloc (.cells cs t)) (w.heap.size + 1) cs t := by
  have := Block.new (w.alloc o1) cs t
  rwa [World.size_alloc] at this
theorem blk_first (w : World) (cs : Array Value) (t : TypeId) (o : Obj) : Block ((w.alloc (.cells cs t)).alloc o) w.heap.size cs t := (Block.new w cs t).alloc o
theorem blk_at2 (w : World) (o1 o2 : Obj) (cs : Array Value) (t : TypeId) : Block (((w.alloc o1).alloc o2).alloc (.cells cs t)) (w.heap.size + 1 + 1) cs t := by
  have := Block.new ((w.alloc o1).alloc o2) cs t
  rwa [World.size_alloc, World.size_alloc] at this
theorem grown_set (W : World) (B i : Nat) (v : Value) : W.grownBy (W.setCell ⟨B, i, none⟩ v) (some B) :=
  ⟨rfl, rfl, rfl, by simp, fun k _ hk => heap_setCell_other W ⟨B, i, none⟩ k v (fun e => hk (by simp [e]))⟩
theorem put14 {W W' : World} {B : Nat} {cs : Array Value} {T : TypeId} {v0 v1 v2 v3 v4 v5 v6 v7 v8 v9 v10 v11 v12 v13 : Value} (e : ((((((((((((((W.setCell ⟨B, 0, none⟩ v0).setCell ⟨B, 1, none⟩ v1).setCell ⟨B, 2, none⟩ v2).setCell ⟨B, 3, none⟩ v3).setCell ⟨B, 4, none⟩ v4).setCell ⟨B, 5, none⟩ v5).setCell ⟨B, 6, none⟩ v6).setCell ⟨B, 7, none⟩ v7).setCell ⟨B, 8, none⟩ v8).setCell ⟨B, 9, none⟩ v9).setCell ⟨B, 10, none⟩ v10).setCell ⟨B, 11, none⟩ v11).setCell ⟨B, 12, none⟩ v12).setCell ⟨B, 13, none⟩ v13) = W') (h : Block W B cs T) (hs : cs.size = 14) : Block W' B #[v0, v1, v2, v3, v4, v5, v6, v7, v8, v9, v10, v11, v12, v13] T ∧ W.grownBy W' (some B) := by
  subst e
  refine ⟨?_, ?_⟩
  · obtain ⟨l⟩ := cs
    match l, hs, h with
    | [c0, c1, c2, c3, c4, c5, c6, c7, c8, c9, c10, c11, c12, c13], _, h' =>
      have k := ((((((((((((((h'.setL 0 v0).setL 1 v1).setL 2 v2).setL 3 v3).setL 4 v4).setL 5 v5).setL 6 v6).setL 7 v7).setL 8 v8).setL 9 v9).setL 10 v10).setL 11 v11).setL 12 v12).setL 13 v13)
      simp only [List.set_cons_zero, List.set_cons_succ] at k
      exact k
  · have g0 := grown_set W B 0 v0
    have g1 := g0.trans (grown_set _ B 1 v1)
    have g2 := g1.trans (grown_set _ B 2 v2)
    have g3 := g2.trans (grown_set _ B 3 v3)
    have g4 := g3.trans (grown_set _ B 4 v4)
    have g5 := g4.trans (grown_set _ B 5 v5)
    have g6 := g5.trans (grown_set _ B 6 v6)
    have g7 := g6.trans (grown_set _ B 7 v7)
    have g8 := g7.trans (grown_set _ B 8 v8)
    have g9 := g8.trans (grown_set _ B 9 v9)
    have g10 := g9.trans (grown_set _ B 10 v10)
    have g11 := g10.trans (grown_set _ B 11 v11)
    have g12 := g11.trans (grown_set _ B 12 v12)
    have g13 := g12.trans (grown_set _ B 13 v13)
    exact g13


set_option maxHeartbeats 4000000 in
theorem ask_any (id : Int) (q : Ms.Q) (w : World) (hq : q.name.length ≤ 100000) :
    Calls Try.prog 13 #[.int .i64 id, qV q] w (MsgRet (Mt.ask id q) w) := by
  obtain ⟨n, t, c⟩ := q
  simp only at hq
  unfold qV
  simp only
  have HCQ := Lib.hid (fun v W (h : ReadQ v [(⟨n, t, c⟩ : Ms.Q)] W) => qcopied_any [⟨n, t, c⟩] v W h (by simp) (by simp [hq]))
  clear hq
  go_enter Try.func13, Try.ntmps13
  go_wp2_with fail
  have kQ := blk_at2 w (.cells #[.string ⟨n.toArray⟩, .int .i64 t, .int .i64 c] 36) (.cells #[.int .i64 0, .bool false, .int .i64 0, .bool false, .bool false, .bool false, .bool false, .int .i64 0, .slice none 0 0, .slice none 0 0, .slice none 0 0, .slice none 0 0, .bool false, .int .i64 0] 27) #[.string ⟨n.toArray⟩, .int .i64 t, .int .i64 c] 36
  have kB := (blk_at1 w (.cells #[.string ⟨n.toArray⟩, .int .i64 t, .int .i64 c] 36) #[.int .i64 0, .bool false, .int .i64 0, .bool false, .bool false, .bool false, .bool false, .int .i64 0, .slice none 0 0, .slice none 0 0, .slice none 0 0, .slice none 0 0, .bool false, .int .i64 0] 27).alloc (.cells #[.string ⟨n.toArray⟩, .int .i64 t, .int .i64 c] 36)
  have bW := (((Below.refl w.heap.size w).alloc (Nat.le_refl _) (.cells #[.string ⟨n.toArray⟩, .int .i64 t, .int .i64 c] 36)).alloc (by simp) (.cells #[.int .i64 0, .bool false, .int .i64 0, .bool false, .bool false, .bool false, .bool false, .int .i64 0, .slice none 0 0, .slice none 0 0, .slice none 0 0, .slice none 0 0, .bool false, .int .i64 0] 27)).alloc (by simp; omega) (.cells #[.string ⟨n.toArray⟩, .int .i64 t, .int .i64 c] 36)
  generalize ((w.alloc (.cells #[.string ⟨n.toArray⟩, .int .i64 t, .int .i64 c] 36)).alloc (.cells #[.int .i64 0, .bool false, .int .i64 0, .bool false, .bool false, .bool false, .bool false, .int .i64 0, .slice none 0 0, .slice none 0 0, .slice none 0 0, .slice none 0 0, .bool false, .int .i64 0] 27)).alloc (.cells #[.string ⟨n.toArray⟩, .int .i64 t, .int .i64 c] 36) = W at kQ kB bW ⊢
  obtain ⟨B, hB⟩ : ∃ B, w.heap.size + 1 = B := ⟨_, rfl⟩
  rw [hB] at kQ kB ⊢
  refine (HCQ.out _ _ (readQ_blk1 kQ)).mono ?_
  rintro e w1 ⟨v1, rfl, ho, b1⟩
  obtain ⟨ao, cap, rfl, _⟩ := ownK_form ho
  have k1 := kB.below b1
  have f0 := k1.frozen 0
  have f1 := k1.frozen 1
  have f2 := k1.frozen 2
  have f3 := k1.frozen 3
  have f4 := k1.frozen 4
  have f5 := k1.frozen 5
  have f6 := k1.frozen 6
  have f7 := k1.frozen 7
  have f8 := k1.frozen 8
  have f9 := k1.frozen 9
  have f10 := k1.frozen 10
  have f11 := k1.frozen 11
  have f12 := k1.frozen 12
  have f13 := k1.frozen 13
  have x0 := k1.cell (i := 0) rfl
  have x1 := k1.cell (i := 1) rfl
  have x2 := k1.cell (i := 2) rfl
  have x3 := k1.cell (i := 3) rfl
  have x4 := k1.cell (i := 4) rfl
  have x5 := k1.cell (i := 5) rfl
  have x6 := k1.cell (i := 6) rfl
  have x7 := k1.cell (i := 7) rfl
  have x8 := k1.cell (i := 8) rfl
  have x9 := k1.cell (i := 9) rfl
  have x10 := k1.cell (i := 10) rfl
  have x11 := k1.cell (i := 11) rfl
  have x12 := k1.cell (i := 12) rfl
  have x13 := k1.cell (i := 13) rfl
  go_wp2_with fail
  generalize hW9 : World.setCell _ _ _ = W9
  obtain ⟨kM, gM⟩ := put14 hW9 k1 rfl
  clear hW9 x0 f0 x1 f1 x2 f2 x3 f3 x4 f4 x5 f5 x6 f6 x7 f7 x8 f8 x9 f9 x10 f10 x11 f11 x12 f12 x13 f13
  have y0 := kM.cell (i := 0) rfl
  have y1 := kM.cell (i := 1) rfl
  have y2 := kM.cell (i := 2) rfl
  have y3 := kM.cell (i := 3) rfl
  have y4 := kM.cell (i := 4) rfl
  have y5 := kM.cell (i := 5) rfl
  have y6 := kM.cell (i := 6) rfl
  have y7 := kM.cell (i := 7) rfl
  have y8 := kM.cell (i := 8) rfl
  have y9 := kM.cell (i := 9) rfl
  have y10 := kM.cell (i := 10) rfl
  have y11 := kM.cell (i := 11) rfl
  have y12 := kM.cell (i := 12) rfl
  have y13 := kM.cell (i := 13) rfl
  refine bodyPost_ret (v := msgV (Mt.ask id ⟨n, t, c⟩) (.slice ao 1 cap) (.slice none 0 0) (.slice none 0 0) (.slice none 0 0)) (by simp [results, Try.results13, go_sem, msgV, Mt.ask, y0, y1, y2, y3, y4, y5, y6, y7, y8, y9, y10, y11, y12, y13]) rfl ⟨_, _, _, _, rfl, ⟨World.ownsRow.mono (ownK_grown ho gM (fun g e1 e2 => ?_)) bW.size, ownK_nil _ _ _ _ _, ownK_nil _ _ _ _ _, ownK_nil _ _ _ _ _⟩, ?_⟩
  · cases e2
    exact own_blk ho k1 (by decide) e1
  · exact (bW.trans (b1.mono bW.size)).grown gM (by have := bW.size; have := b1.size; omega) (fun j e => by cases e; omega)

set_option maxHeartbeats 4000000 in
theorem refuse_any (m : Ms.M) (vq va vn vd : Value) (code : Int) (w : World) (hL : Lists m vq va vn vd w) (hl : m.qs.length ≤ 100000) (hq : ∀ q ∈ m.qs, q.name.length ≤ 100000) :
    Calls Try.prog 17 #[msgV m vq va vn vd, .int .i64 code] w (MsgRet (Mt.refuse m code) w) := by
  have HCQ := Lib.hid (fun v W (h : ReadQ v m.qs W) => qcopied_any m.qs v W h hl hq)
  obtain ⟨ao0, c0, rfl, _⟩ := hL.qs.form
  have hLQ := hL.qs
  unfold msgV
  have kA := blk_first w #[.int .i64 m.id, .bool m.resp, .int .i64 m.opc, .bool m.auth, .bool m.cut, .bool m.des, .bool m.avl, .int .i64 m.code, .slice ao0 m.qs.length c0, va, vn, vd, .bool m.edns, .int .i64 m.size] 27 (.cells #[.int .i64 0, .bool false, .int .i64 0, .bool false, .bool false, .bool false, .bool false, .int .i64 0, .slice none 0 0, .slice none 0 0, .slice none 0 0, .slice none 0 0, .bool false, .int .i64 0] 27)
  have j0 := Lib.hid (kA.cell (i := 0) rfl)
  have j2 := Lib.hid (kA.cell (i := 2) rfl)
  have j5 := Lib.hid (kA.cell (i := 5) rfl)
  have j8 := Lib.hid (kA.cell (i := 8) rfl)
  have j12 := Lib.hid (kA.cell (i := 12) rfl)
  have KB := Lib.hid (blk_at1 w (.cells #[.int .i64 m.id, .bool m.resp, .int .i64 m.opc, .bool m.auth, .bool m.cut, .bool m.des, .bool m.avl, .int .i64 m.code, .slice ao0 m.qs.length c0, va, vn, vd, .bool m.edns, .int .i64 m.size] 27) #[.int .i64 0, .bool false, .int .i64 0, .bool false, .bool false, .bool false, .bool false, .int .i64 0, .slice none 0 0, .slice none 0 0, .slice none 0 0, .slice none 0 0, .bool false, .int .i64 0] 27)
  have bW := ((Below.refl w.heap.size w).alloc (Nat.le_refl _) (.cells #[.int .i64 m.id, .bool m.resp, .int .i64 m.opc, .bool m.auth, .bool m.cut, .bool m.des, .bool m.avl, .int .i64 m.code, .slice ao0 m.qs.length c0, va, vn, vd, .bool m.edns, .int .i64 m.size] 27)).alloc (by simp) (.cells #[.int .i64 0, .bool false, .int .i64 0, .bool false, .bool false, .bool false, .bool false, .int .i64 0, .slice none 0 0, .slice none 0 0, .slice none 0 0, .slice none 0 0, .bool false, .int .i64 0] 27)
  have HRQ := Lib.hid (readQ_below hLQ bW)
  have BW := Lib.hid bW
  have HKA := Lib.hid kA
  clear hLQ hL hl hq kA bW
  have hmp : Try.prog.follows .mixedOrders = true := by kernel_rfl
  go_enter Try.func17, Try.ntmps17
  go_wp2_with fail
  refine wp_region_slotsTL (by simp) slotLe (slotPhi ((fun v _ => v = ?r6) :: (fun v _ => v = ?r7) :: (fun v _ => v = ?r8) :: (fun v _ => v = ?r9) :: (fun v _ => v = ?r10) :: (fun v _ => v = ?r11) :: (fun v _ => v = ?r12) :: (fun v _ => v = ?r13) :: (fun v _ => v = ?r14) :: (fun v W' => ∃ ao cap, v = .slice ao m.qs.length cap ∧ OwnK encQ 3 36 (w.heap.size + 1) v m.qs W') :: (fun v _ => v = ?r16) :: (fun v _ => v = ?r17) :: (fun v W' => ∃ ao cap, v = .agg #[.int .i64 m.id, .bool true, .int .i64 m.opc, .bool false, .bool false, .bool m.des, .bool true, .int .i64 code, .slice ao m.qs.length cap, .slice none 0 0, .slice none 0 0, .slice none 0 0, .bool m.edns, .int .i64 0] ∧ OwnK encQ 3 36 (w.heap.size + 1) (.slice ao m.qs.length cap) m.qs W') :: (fun v W' => ∃ B, v = .pointer (some ⟨B, 0, none⟩) ∧ w.heap.size + 2 ≤ B ∧ Block W' B #[.int .i64 0, .bool false, .int .i64 0, .bool false, .bool false, .bool false, .bool false, .int .i64 0, .slice none 0 0, .slice none 0 0, .slice none 0 0, .slice none 0 0, .bool false, .int .i64 0] 27) :: [])) slotLe_refl slotLe_trans (slotPhi_stable ?stb) (by kernel_rfl) (by kernel_rfl) (by kernel_rfl) (by kernel_rfl) (by kernel_rfl) ?steps ?fin
  case stb =>
    refine ⟨by intro _ _ _ _ h; exact h, ?_⟩
    refine ⟨by intro _ _ _ _ h; exact h, ?_⟩
    refine ⟨by intro _ _ _ _ h; exact h, ?_⟩
    refine ⟨by intro _ _ _ _ h; exact h, ?_⟩
    refine ⟨by intro _ _ _ _ h; exact h, ?_⟩
    refine ⟨by intro _ _ _ _ h; exact h, ?_⟩
    refine ⟨by intro _ _ _ _ h; exact h, ?_⟩
    refine ⟨by intro _ _ _ _ h; exact h, ?_⟩
    refine ⟨by intro _ _ _ _ h; exact h, ?_⟩
    refine ⟨by rintro v x y h ⟨ao, cap, e, ho⟩; exact ⟨ao, cap, e, ownK_below ho h⟩, ?_⟩
    refine ⟨by intro _ _ _ _ h; exact h, ?_⟩
    refine ⟨by intro _ _ _ _ h; exact h, ?_⟩
    refine ⟨by rintro v x y h ⟨ao, cap, e, ho⟩; exact ⟨ao, cap, e, ownK_below ho h⟩, ?_⟩
    refine ⟨by rintro v x y h ⟨B, e, hB, hk⟩; exact ⟨B, e, hB, hk.below h⟩, ?_⟩
    exact trivial
  case steps =>
    refine ⟨?_, ?_⟩
    · intro a W K N hK
      have e2 : a.tmps[2]?.getD undef = .pointer (some ⟨w.heap.size, 0, none⟩) := N.was' 2 _ (by kernel_rfl) rfl
      rw [if_pos (wanted_no rfl)]
      go_simp
      refine hK _ _ (slotLe_refl _) ?_
      exact rfl
    refine ⟨?_, ?_⟩
    · intro a W K N hK
      have e6 : a.tmps[6]?.getD undef = _ := N.dep' 0 6 (by kernel_rfl)
      rw [if_pos (wanted_no rfl)]
      have z := keep_cell N.le j0.out
      go_simp
      refine hK _ _ (slotLe_refl _) ?_
      exact rfl
    refine ⟨?_, ?_⟩
    · intro a W K N hK
      have e2 : a.tmps[2]?.getD undef = .pointer (some ⟨w.heap.size, 0, none⟩) := N.was' 2 _ (by kernel_rfl) rfl
      rw [if_pos (wanted_no rfl)]
      go_simp
      refine hK _ _ (slotLe_refl _) ?_
      exact rfl
    refine ⟨?_, ?_⟩
    · intro a W K N hK
      have e8 : a.tmps[8]?.getD undef = _ := N.dep' 2 8 (by kernel_rfl)
      rw [if_pos (wanted_no rfl)]
      have z := keep_cell N.le j2.out
      go_simp
      refine hK _ _ (slotLe_refl _) ?_
      exact rfl
    refine ⟨?_, ?_⟩
    · intro a W K N hK
      have e2 : a.tmps[2]?.getD undef = .pointer (some ⟨w.heap.size, 0, none⟩) := N.was' 2 _ (by kernel_rfl) rfl
      rw [if_pos (wanted_no rfl)]
      go_simp
      refine hK _ _ (slotLe_refl _) ?_
      exact rfl
    refine ⟨?_, ?_⟩
    · intro a W K N hK
      have e10 : a.tmps[10]?.getD undef = _ := N.dep' 4 10 (by kernel_rfl)
      rw [if_pos (wanted_no rfl)]
      have z := keep_cell N.le j5.out
      go_simp
      refine hK _ _ (slotLe_refl _) ?_
      exact rfl
    refine ⟨?_, ?_⟩
    · intro a W K N hK
      have e1 : a.tmps[1]?.getD undef = .int .i64 code := N.was' 1 _ (by kernel_rfl) rfl
      rw [if_pos (wanted_no rfl)]
      go_simp
      refine hK _ _ (slotLe_refl _) ?_
      exact rfl
    refine ⟨?_, ?_⟩
    · intro a W K N hK
      have e2 : a.tmps[2]?.getD undef = .pointer (some ⟨w.heap.size, 0, none⟩) := N.was' 2 _ (by kernel_rfl) rfl
      rw [if_pos (wanted_no rfl)]
      go_simp
      refine hK _ _ (slotLe_refl _) ?_
      exact rfl
    refine ⟨?_, ?_⟩
    · intro a W K N hK
      have e13 : a.tmps[13]?.getD undef = _ := N.dep' 7 13 (by kernel_rfl)
      rw [if_pos (wanted_no rfl)]
      have z := keep_cell N.le j8.out
      go_simp
      refine hK _ _ (slotLe_refl _) ?_
      exact rfl
    refine ⟨?_, ?_⟩
    · intro a W K N hK
      have e14 : a.tmps[14]?.getD undef = _ := N.dep' 8 14 (by kernel_rfl)
      rw [if_pos (wanted_no rfl)]
      go_simp
      refine (HCQ.out _ _ (readQ_below HRQ.out (below_undrew N.le))).mono ?_
      rintro e w4 ⟨v4, rfl, ho4, b4⟩
      obtain ⟨ao4, cap4, rfl, _⟩ := ownK_form ho4
      refine hK _ _ b4 ?_
      exact ⟨ao4, cap4, rfl, World.ownsRow.mono ho4 (by have := N.le.size; simp at this; omega)⟩
    refine ⟨?_, ?_⟩
    · intro a W K N hK
      have e2 : a.tmps[2]?.getD undef = .pointer (some ⟨w.heap.size, 0, none⟩) := N.was' 2 _ (by kernel_rfl) rfl
      rw [if_pos (wanted_no rfl)]
      go_simp
      refine hK _ _ (slotLe_refl _) ?_
      exact rfl
    refine ⟨?_, ?_⟩
    · intro a W K N hK
      have e16 : a.tmps[16]?.getD undef = _ := N.dep' 10 16 (by kernel_rfl)
      rw [if_pos (wanted_no rfl)]
      have z := keep_cell N.le j12.out
      go_simp
      refine hK _ _ (slotLe_refl _) ?_
      exact rfl
    refine ⟨?_, ?_⟩
    · intro a W K N hK
      have e7 : a.tmps[7]?.getD undef = _ := N.dep' 1 7 (by kernel_rfl)
      have e9 : a.tmps[9]?.getD undef = _ := N.dep' 3 9 (by kernel_rfl)
      have e11 : a.tmps[11]?.getD undef = _ := N.dep' 5 11 (by kernel_rfl)
      have e12 : a.tmps[12]?.getD undef = _ := N.dep' 6 12 (by kernel_rfl)
      have e15 := Lib.hid (show (fun v W' => ∃ ao cap, v = .slice ao m.qs.length cap ∧ OwnK encQ 3 36 (w.heap.size + 1) v m.qs W') (a.tmps[15]?.getD undef) W from N.dep' 9 15 (by kernel_rfl))
      have e17 : a.tmps[17]?.getD undef = _ := N.dep' 11 17 (by kernel_rfl)
      rw [if_pos (wanted_no rfl)]
      obtain ⟨ao4, cap4, e4, ho4⟩ := e15.out
      rw [e4] at ho4
      go_simp
      refine hK _ _ (slotLe_refl _) ?_
      exact ⟨ao4, cap4, rfl, ho4⟩
    refine ⟨?_, ?_⟩
    · intro a W K N hK
      rw [if_pos (wanted_no rfl)]
      go_simp
      have hsz := N.le.size
      refine hK _ _ ((Below.refl _ _).alloc (Nat.le_refl _) _) ?_
      exact ⟨_, rfl, by simp at hsz; omega, Block.new _ _ _⟩
    exact trivial
  case fin =>
    intro V hV
    simp only [FinAll, slotPhi, List.dropLast, List.getLast_cons_cons, List.getLast_singleton, List.getD_cons_zero, List.getD_cons_succ, forall_eq, Act.put, List.setIfInBounds_toArray, List.set_cons_zero, List.set_cons_succ]
    intro v15 h15
    intro v18 h18
    intro v5 h5
    obtain ⟨ao4, cap4, rfl, ho4⟩ := h18
    obtain ⟨B5, rfl, hB5, kB5⟩ := h5
    clear h15
    have HV := Lib.hid (below_undrew hV)
    have kB := (KB.out.below HV.out)
    clear hV j0 j2 j5 j8 j12 HCQ HRQ
    have x0 := kB5.cell (i := 0) rfl
    have f0 := kB5.frozen 0
    have x1 := kB5.cell (i := 1) rfl
    have f1 := kB5.frozen 1
    have x2 := kB5.cell (i := 2) rfl
    have f2 := kB5.frozen 2
    have x3 := kB5.cell (i := 3) rfl
    have f3 := kB5.frozen 3
    have x4 := kB5.cell (i := 4) rfl
    have f4 := kB5.frozen 4
    have x5 := kB5.cell (i := 5) rfl
    have f5 := kB5.frozen 5
    have x6 := kB5.cell (i := 6) rfl
    have f6 := kB5.frozen 6
    have x7 := kB5.cell (i := 7) rfl
    have f7 := kB5.frozen 7
    have x8 := kB5.cell (i := 8) rfl
    have f8 := kB5.frozen 8
    have x9 := kB5.cell (i := 9) rfl
    have f9 := kB5.frozen 9
    have x10 := kB5.cell (i := 10) rfl
    have f10 := kB5.frozen 10
    have x11 := kB5.cell (i := 11) rfl
    have f11 := kB5.frozen 11
    have x12 := kB5.cell (i := 12) rfl
    have f12 := kB5.frozen 12
    have x13 := kB5.cell (i := 13) rfl
    have f13 := kB5.frozen 13
    have KB5 := Lib.hid kB5
    have KBV := Lib.hid kB
    have HO4 := Lib.hid ho4
    clear kB5 kB ho4
    generalize hQ : Exit.then _ _ = Q0
    go_wp2_with fail
    generalize hW9 : World.setCell _ _ _ = W5
    obtain ⟨kM, gM⟩ := put14 hW9 KB5.out rfl
    have hVs := HV.out.size
    have h5V := KB5.out.lt
    have hs5 := gM.size
    have KM := Lib.hid kM
    have KB1 := Lib.hid (block_grown KBV.out gM (by simp; omega))
    have KA5 := Lib.hid (block_grown (HKA.out.below HV.out) gM (by simp; omega))
    have HO5 := Lib.hid (ownK_grown HO4.out gM (fun g e1 e2 => by cases e2; exact own_blk HO4.out KB5.out (by decide) e1))
    have HB5 : Hid (Below w.heap.size w W5) := Lib.hid (((BW.out.trans (HV.out.mono (by simp; omega)))).grown gM (by simp at hVs; omega) (fun j e => by cases e; omega))
    clear hW9 kM gM KBV KB5 HO4 HV HKA BW KB x0 f0 x1 f1 x2 f2 x3 f3 x4 f4 x5 f5 x6 f6 x7 f7 x8 f8 x9 f9 x10 f10 x11 f11 x12 f12 x13 f13
    have x0 := KM.out.cell (i := 0) rfl
    have f0 := KM.out.frozen 0
    have y0 := KB1.out.cell (i := 0) rfl
    have g0 := KB1.out.frozen 0
    have x1 := KM.out.cell (i := 1) rfl
    have f1 := KM.out.frozen 1
    have y1 := KB1.out.cell (i := 1) rfl
    have g1 := KB1.out.frozen 1
    have x2 := KM.out.cell (i := 2) rfl
    have f2 := KM.out.frozen 2
    have y2 := KB1.out.cell (i := 2) rfl
    have g2 := KB1.out.frozen 2
    have x3 := KM.out.cell (i := 3) rfl
    have f3 := KM.out.frozen 3
    have y3 := KB1.out.cell (i := 3) rfl
    have g3 := KB1.out.frozen 3
    have x4 := KM.out.cell (i := 4) rfl
    have f4 := KM.out.frozen 4
    have y4 := KB1.out.cell (i := 4) rfl
    have g4 := KB1.out.frozen 4
    have x5 := KM.out.cell (i := 5) rfl
    have f5 := KM.out.frozen 5
    have y5 := KB1.out.cell (i := 5) rfl
    have g5 := KB1.out.frozen 5
    have x6 := KM.out.cell (i := 6) rfl
    have f6 := KM.out.frozen 6
    have y6 := KB1.out.cell (i := 6) rfl
    have g6 := KB1.out.frozen 6
    have x7 := KM.out.cell (i := 7) rfl
    have f7 := KM.out.frozen 7
    have y7 := KB1.out.cell (i := 7) rfl
    have g7 := KB1.out.frozen 7
    have x8 := KM.out.cell (i := 8) rfl
    have f8 := KM.out.frozen 8
    have y8 := KB1.out.cell (i := 8) rfl
    have g8 := KB1.out.frozen 8
    have x9 := KM.out.cell (i := 9) rfl
    have f9 := KM.out.frozen 9
    have y9 := KB1.out.cell (i := 9) rfl
    have g9 := KB1.out.frozen 9
    have x10 := KM.out.cell (i := 10) rfl
    have f10 := KM.out.frozen 10
    have y10 := KB1.out.cell (i := 10) rfl
    have g10 := KB1.out.frozen 10
    have x11 := KM.out.cell (i := 11) rfl
    have f11 := KM.out.frozen 11
    have y11 := KB1.out.cell (i := 11) rfl
    have g11 := KB1.out.frozen 11
    have x12 := KM.out.cell (i := 12) rfl
    have f12 := KM.out.frozen 12
    have y12 := KB1.out.cell (i := 12) rfl
    have g12 := KB1.out.frozen 12
    have x13 := KM.out.cell (i := 13) rfl
    have f13 := KM.out.frozen 13
    have y13 := KB1.out.cell (i := 13) rfl
    have g13 := KB1.out.frozen 13
    have a12 := KA5.out.cell (i := 12) rfl
    have hne : w.heap.size + 1 ≠ B5 := by omega
    subst hQ
    cases hed : m.edns with
    | false =>
      simp only [hed] at x12 a12 ⊢
      go_wp2_with fail
      generalize hW9 : World.setCell _ _ _ = W9
      obtain ⟨kM, gM⟩ := put14 hW9 KB1.out rfl
      have ho6 := HO5.out
      have b6 := HB5.out
      clear hW9 x0 f0 y0 g0 x1 f1 y1 g1 x2 f2 y2 g2 x3 f3 y3 g3 x4 f4 y4 g4 x5 f5 y5 g5 x6 f6 y6 g6 x7 f7 y7 g7 x8 f8 y8 g8 x9 f9 y9 g9 x10 f10 y10 g10 x11 f11 y11 g11 x12 f12 y12 g12 x13 f13 y13 g13
      have z0 := kM.cell (i := 0) rfl
      have z1 := kM.cell (i := 1) rfl
      have z2 := kM.cell (i := 2) rfl
      have z3 := kM.cell (i := 3) rfl
      have z4 := kM.cell (i := 4) rfl
      have z5 := kM.cell (i := 5) rfl
      have z6 := kM.cell (i := 6) rfl
      have z7 := kM.cell (i := 7) rfl
      have z8 := kM.cell (i := 8) rfl
      have z9 := kM.cell (i := 9) rfl
      have z10 := kM.cell (i := 10) rfl
      have z11 := kM.cell (i := 11) rfl
      have z12 := kM.cell (i := 12) rfl
      have z13 := kM.cell (i := 13) rfl
      refine bodyPost_ret (v := msgV (Mt.refuse m code) (.slice ao4 m.qs.length cap4) (.slice none 0 0) (.slice none 0 0) (.slice none 0 0)) (by simp [results, Try.results17, go_sem, msgV, Mt.refuse, hed, z0, z1, z2, z3, z4, z5, z6, z7, z8, z9, z10, z11, z12, z13] <;> first | rfl | simp) rfl ⟨_, _, _, _, rfl, ⟨World.ownsRow.mono (ownK_grown ho6 gM (fun g e1 e2 => ?_)) (Nat.le_succ _), ownK_nil _ _ _ _ _, ownK_nil _ _ _ _ _, ownK_nil _ _ _ _ _⟩, ?_⟩
      · cases e2
        exact own_blk ho6 KB1.out (by decide) e1
      · exact b6.grown gM (by omega) (fun j e => by cases e; omega)
    | true =>
      simp only [hed] at x12 a12 ⊢
      go_wp2_with fail
      generalize hW9 : World.setCell _ _ _ = W9
      obtain ⟨kM, gM⟩ := put14 hW9 (KB1.out.other hne 13 (.int .i64 1232)) rfl
      have ho6 := (ownK_grown HO5.out (grown_set W5 B5 13 (.int .i64 1232)) (fun g e1 e2 => by cases e2; exact own_blk HO5.out KM.out (by decide) e1))
      have b6 := (HB5.out.grown (grown_set W5 B5 13 (.int .i64 1232)) (by omega) (fun j e => by cases e; omega))
      clear hW9 x0 f0 y0 g0 x1 f1 y1 g1 x2 f2 y2 g2 x3 f3 y3 g3 x4 f4 y4 g4 x5 f5 y5 g5 x6 f6 y6 g6 x7 f7 y7 g7 x8 f8 y8 g8 x9 f9 y9 g9 x10 f10 y10 g10 x11 f11 y11 g11 x12 f12 y12 g12 x13 f13 y13 g13
      have z0 := kM.cell (i := 0) rfl
      have z1 := kM.cell (i := 1) rfl
      have z2 := kM.cell (i := 2) rfl
      have z3 := kM.cell (i := 3) rfl
      have z4 := kM.cell (i := 4) rfl
      have z5 := kM.cell (i := 5) rfl
      have z6 := kM.cell (i := 6) rfl
      have z7 := kM.cell (i := 7) rfl
      have z8 := kM.cell (i := 8) rfl
      have z9 := kM.cell (i := 9) rfl
      have z10 := kM.cell (i := 10) rfl
      have z11 := kM.cell (i := 11) rfl
      have z12 := kM.cell (i := 12) rfl
      have z13 := kM.cell (i := 13) rfl
      refine bodyPost_ret (v := msgV (Mt.refuse m code) (.slice ao4 m.qs.length cap4) (.slice none 0 0) (.slice none 0 0) (.slice none 0 0)) (by simp [results, Try.results17, go_sem, msgV, Mt.refuse, hed, z0, z1, z2, z3, z4, z5, z6, z7, z8, z9, z10, z11, z12, z13] <;> first | rfl | simp) rfl ⟨_, _, _, _, rfl, ⟨World.ownsRow.mono (ownK_grown ho6 gM (fun g e1 e2 => ?_)) (Nat.le_succ _), ownK_nil _ _ _ _ _, ownK_nil _ _ _ _ _, ownK_nil _ _ _ _ _⟩, ?_⟩
      · cases e2
        exact own_blk ho6 (KB1.out.other hne 13 (.int .i64 1232)) (by decide) e1
      · exact b6.grown gM (by simp; omega) (fun j e => by cases e; omega)
end Go.Proofs.Ytdodamkndigjkaa

/- Reply: what is asked, told with records. -/
set_option maxRecDepth 100000
namespace Go.Proofs.Ytdodamkndigjkaa
open Go.RowKit Go.Shelf Go.Maps
attribute [local go_sem] Oper.semAt_some

set_option maxHeartbeats 4000000 in
theorem reply_any (m : Ms.M) (vq va vn vd : Value) (code : Int) (a s : List Rd.RR) (av sv : Value) (w : World) (hL : Lists m vq va vn vd w) (hl : m.qs.length ≤ 100000) (hq : ∀ q ∈ m.qs, q.name.length ≤ 100000) (ha : ReadR av a w) (hs : ReadR sv s w)
    (hal : a.length ≤ 100000) (hsl : s.length ≤ 100000) (haf : ∀ r ∈ a, r.name.length ≤ 100000 ∧ r.data.length ≤ 100000) (hsf : ∀ r ∈ s, r.name.length ≤ 100000 ∧ r.data.length ≤ 100000) :
    Calls Try.prog 19 #[msgV m vq va vn vd, .int .i64 code, av, sv] w (MsgRet (Mt.reply m code a s) w) := by
  have HRF := Lib.hid (fun W (h : Lists m vq va vn vd W) => refuse_any m vq va vn vd code W h hl hq)
  have HCA := Lib.hid (fun W (h : ReadR av a W) => copied_any a av W h hal haf)
  have HCS := Lib.hid (fun W (h : ReadR sv s W) => copied_any s sv W h hsl hsf)
  obtain ⟨aq, cq, rfl, _⟩ := hL.qs.form
  obtain ⟨aa, ca, rfl, _⟩ := ha.form
  obtain ⟨as2, cs2, rfl, _⟩ := hs.form
  unfold msgV at HRF ⊢
  have KA := Lib.hid (blk_first w #[.int .i64 m.id, .bool m.resp, .int .i64 m.opc, .bool m.auth, .bool m.cut, .bool m.des, .bool m.avl, .int .i64 m.code, .slice aq m.qs.length cq, va, vn, vd, .bool m.edns, .int .i64 m.size] 27 (.cells #[.int .i64 0, .bool false, .int .i64 0, .bool false, .bool false, .bool false, .bool false, .int .i64 0, .slice none 0 0, .slice none 0 0, .slice none 0 0, .slice none 0 0, .bool false, .int .i64 0] 27))
  have KB := Lib.hid (blk_at1 w (.cells #[.int .i64 m.id, .bool m.resp, .int .i64 m.opc, .bool m.auth, .bool m.cut, .bool m.des, .bool m.avl, .int .i64 m.code, .slice aq m.qs.length cq, va, vn, vd, .bool m.edns, .int .i64 m.size] 27) #[.int .i64 0, .bool false, .int .i64 0, .bool false, .bool false, .bool false, .bool false, .int .i64 0, .slice none 0 0, .slice none 0 0, .slice none 0 0, .slice none 0 0, .bool false, .int .i64 0] 27)
  have bW := ((Below.refl w.heap.size w).alloc (Nat.le_refl _) (.cells #[.int .i64 m.id, .bool m.resp, .int .i64 m.opc, .bool m.auth, .bool m.cut, .bool m.des, .bool m.avl, .int .i64 m.code, .slice aq m.qs.length cq, va, vn, vd, .bool m.edns, .int .i64 m.size] 27)).alloc (by simp) (.cells #[.int .i64 0, .bool false, .int .i64 0, .bool false, .bool false, .bool false, .bool false, .int .i64 0, .slice none 0 0, .slice none 0 0, .slice none 0 0, .slice none 0 0, .bool false, .int .i64 0] 27)
  have HLW := Lib.hid (hL.below bW)
  have HAW := Lib.hid (readR_below ha bW)
  have HSW := Lib.hid (readR_below hs bW)
  have BW := Lib.hid bW
  clear hL hl hq ha hs hal hsl haf hsf bW
  go_enter Try.func19, Try.ntmps19
  go_wp2_with fail
  refine (HRF.out _ HLW.out).mono ?_
  rintro e w1 ⟨uq, ua, un, ud, rfl, hO1, b1⟩
  obtain ⟨oq, kq, rfl, _⟩ := ownK_form hO1.qs
  obtain ⟨oa, ka, rfl, _⟩ := ownK_form hO1.an
  obtain ⟨on, kn, rfl, _⟩ := ownK_form hO1.ns
  obtain ⟨od, kd, rfl, _⟩ := ownK_form hO1.ad
  simp only [msgV, Mt.refuse, List.length_nil]
  obtain ⟨SZ, hSZ⟩ : ∃ z : Int, (if m.edns = true then 1232 else 0) = z := ⟨_, rfl⟩
  rw [hSZ]
  have HSZ := Lib.hid hSZ
  clear hSZ
  have HO1 := Lib.hid hO1
  have HA1 := Lib.hid (readR_below HAW.out b1)
  have HS1 := Lib.hid (readR_below HSW.out b1)
  have KB1 := Lib.hid (KB.out.below b1)
  have HB1 : Hid (Below w.heap.size w w1) := Lib.hid (BW.out.trans (b1.mono BW.out.size))
  have hs1 := b1.size
  simp at hs1
  clear HRF HLW HAW HSW KA KB BW hO1 b1
  go_wp2_with fail
  have K9 := Lib.hid (Block.new w1 #[.int .i64 m.id, .bool true, .int .i64 m.opc, .bool false, .bool false, .bool m.des, .bool true, .int .i64 code, .slice oq m.qs.length kq, .slice oa 0 ka, .slice on 0 kn, .slice od 0 kd, .bool m.edns, .int .i64 SZ] 27)
  have bA := (Below.refl w1.heap.size w1).alloc (Nat.le_refl _) (.cells #[.int .i64 m.id, .bool true, .int .i64 m.opc, .bool false, .bool false, .bool m.des, .bool true, .int .i64 code, .slice oq m.qs.length kq, .slice oa 0 ka, .slice on 0 kn, .slice od 0 kd, .bool m.edns, .int .i64 SZ] 27)
  refine (HCA.out _ (readR_below HA1.out bA)).mono ?_
  rintro e w2 ⟨v2, rfl, ho2, b2⟩
  obtain ⟨xa, ya, rfl, _⟩ := ownK_form ho2
  go_wp2_with fail
  have b02 := below_trans bA b2
  refine (HCS.out _ (readR_below HS1.out b02)).mono ?_
  rintro e w3 ⟨v3, rfl, ho3, b3⟩
  obtain ⟨xs, ys, rfl, _⟩ := ownK_form ho3
  have b03 := below_trans b02 b3
  have hs3 := b03.size
  have hO3 := HO1.out.below b03
  have K93 := Lib.hid ((K9.out.below b2).below b3)
  have KB3 := Lib.hid (KB1.out.below b03)
  have HB3 : Hid (Below w.heap.size w w3) := Lib.hid (HB1.out.trans (b03.mono (by omega)))
  have hsA := bA.size
  have hL3 : OwnL w.heap.size (Mt.reply m code a s) (.slice oq m.qs.length kq) (.slice xa a.length ya) (.slice xs s.length ys) (.slice od 0 kd) w3 := ⟨World.ownsRow.mono hO3.qs (by simp; omega), World.ownsRow.mono (ownK_below ho2 b3) (by omega), World.ownsRow.mono ho3 (by have := b2.size; omega), World.ownsRow.mono hO3.ad (by simp; omega)⟩
  have HL3 := Lib.hid hL3
  have hne9 : w.heap.size + 1 ≠ w1.heap.size := by omega
  obtain ⟨B9, hB9⟩ : ∃ B, w1.heap.size = B := ⟨_, rfl⟩
  rw [hB9] at K93 hne9 hs1 ⊢
  have hs9 := K93.out.lt
  have hs1B := KB3.out.lt
  clear HA1 HS1 KB1 HB1 hO3 ho2 ho3 b2 b3 b02 b03 bA K9 hB9 HCA HCS hL3 HO1 hs3 hsA
  have x0 := K93.out.cell (i := 0) rfl
  have f0 := K93.out.frozen 0
  have x1 := K93.out.cell (i := 1) rfl
  have f1 := K93.out.frozen 1
  have x2 := K93.out.cell (i := 2) rfl
  have f2 := K93.out.frozen 2
  have x3 := K93.out.cell (i := 3) rfl
  have f3 := K93.out.frozen 3
  have x4 := K93.out.cell (i := 4) rfl
  have f4 := K93.out.frozen 4
  have x5 := K93.out.cell (i := 5) rfl
  have f5 := K93.out.frozen 5
  have x6 := K93.out.cell (i := 6) rfl
  have f6 := K93.out.frozen 6
  have x7 := K93.out.cell (i := 7) rfl
  have f7 := K93.out.frozen 7
  have x8 := K93.out.cell (i := 8) rfl
  have f8 := K93.out.frozen 8
  have x9 := K93.out.cell (i := 9) rfl
  have f9 := K93.out.frozen 9
  have x10 := K93.out.cell (i := 10) rfl
  have f10 := K93.out.frozen 10
  have x11 := K93.out.cell (i := 11) rfl
  have f11 := K93.out.frozen 11
  have x12 := K93.out.cell (i := 12) rfl
  have f12 := K93.out.frozen 12
  have x13 := K93.out.cell (i := 13) rfl
  have f13 := K93.out.frozen 13
  have y0 := KB3.out.cell (i := 0) rfl
  have g0 := KB3.out.frozen 0
  have y1 := KB3.out.cell (i := 1) rfl
  have g1 := KB3.out.frozen 1
  have y2 := KB3.out.cell (i := 2) rfl
  have g2 := KB3.out.frozen 2
  have y3 := KB3.out.cell (i := 3) rfl
  have g3 := KB3.out.frozen 3
  have y4 := KB3.out.cell (i := 4) rfl
  have g4 := KB3.out.frozen 4
  have y5 := KB3.out.cell (i := 5) rfl
  have g5 := KB3.out.frozen 5
  have y6 := KB3.out.cell (i := 6) rfl
  have g6 := KB3.out.frozen 6
  have y7 := KB3.out.cell (i := 7) rfl
  have g7 := KB3.out.frozen 7
  have y8 := KB3.out.cell (i := 8) rfl
  have g8 := KB3.out.frozen 8
  have y9 := KB3.out.cell (i := 9) rfl
  have g9 := KB3.out.frozen 9
  have y10 := KB3.out.cell (i := 10) rfl
  have g10 := KB3.out.frozen 10
  have y11 := KB3.out.cell (i := 11) rfl
  have g11 := KB3.out.frozen 11
  have y12 := KB3.out.cell (i := 12) rfl
  have g12 := KB3.out.frozen 12
  have y13 := KB3.out.cell (i := 13) rfl
  have g13 := KB3.out.frozen 13
  go_wp2_with fail
  generalize hW9 : World.setCell _ _ _ = W9
  have gA := (grown_set w3 B9 9 (.slice xa a.length ya)).trans (grown_set _ B9 10 (.slice xs s.length ys))
  have kBx := (KB3.out.other hne9 9 (.slice xa a.length ya)).other hne9 10 (.slice xs s.length ys)
  have hLx := HL3.out.box K93.out gA
  have hBx := HB3.out.grown gA (by omega) (fun j e => by cases e; omega)
  obtain ⟨kM, gM⟩ := put14 hW9 kBx rfl
  clear hW9 x0 f0 y0 g0 x1 f1 y1 g1 x2 f2 y2 g2 x3 f3 y3 g3 x4 f4 y4 g4 x5 f5 y5 g5 x6 f6 y6 g6 x7 f7 y7 g7 x8 f8 y8 g8 x9 f9 y9 g9 x10 f10 y10 g10 x11 f11 y11 g11 x12 f12 y12 g12 x13 f13 y13 g13
  have z0 := kM.cell (i := 0) rfl
  have z1 := kM.cell (i := 1) rfl
  have z2 := kM.cell (i := 2) rfl
  have z3 := kM.cell (i := 3) rfl
  have z4 := kM.cell (i := 4) rfl
  have z5 := kM.cell (i := 5) rfl
  have z6 := kM.cell (i := 6) rfl
  have z7 := kM.cell (i := 7) rfl
  have z8 := kM.cell (i := 8) rfl
  have z9 := kM.cell (i := 9) rfl
  have z10 := kM.cell (i := 10) rfl
  have z11 := kM.cell (i := 11) rfl
  have z12 := kM.cell (i := 12) rfl
  have z13 := kM.cell (i := 13) rfl
  refine bodyPost_ret (v := msgV (Mt.reply m code a s) (.slice oq m.qs.length kq) (.slice xa a.length ya) (.slice xs s.length ys) (.slice od 0 kd)) (by simp [results, Try.results19, go_sem, msgV, Mt.reply, HSZ.out, z0, z1, z2, z3, z4, z5, z6, z7, z8, z9, z10, z11, z12, z13] <;> first | rfl | simp) rfl ⟨_, _, _, _, rfl, hLx.box kBx gM, ?_⟩
  exact hBx.grown gM (by have := gA.size; omega) (fun j e => by cases e; omega)
end Go.Proofs.Ytdodamkndigjkaa
