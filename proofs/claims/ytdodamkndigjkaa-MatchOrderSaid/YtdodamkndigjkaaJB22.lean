/- 2 texts put together: Alike, QCopy. -/
import Derived.WalkKit
import Derived.Test.YtdodamkndigjkaaJB9
import Derived.Test.YtdodamkndigjkaaJB16
import Derived.Test.YtdodamkndigjkaaJB17
import Derived.Test.YtdodamkndigjkaaJB21
/- What the laws hold messages against each other by: RRs, Message. -/
namespace Go.Proofs.Ytdodamkndigjkaa
open Go.RowKit Go.Shelf
attribute [local go_sem] Oper.semAt_some

theorem neq_rr (W : World) (a : Rd.RR) : (binOp .neq 51 (rrV a) (rrV a)).run Try.prog W = .ok (.bool false) W := by
  obtain ⟨n, t, c, l, d⟩ := a
  unfold rrV
  simp only
  rw [run_neq_struct, run_equalIn_struct W 9999 51 _ _ (by rw [fieldsRR]; exact Try.underlying51) heldRR, fieldsRR]
  simp [Op.eqFields, go_sem]
theorem readR_at {ao : Option Addr} {len cap : Nat} {l : List Rd.RR} {W : World} (h : ReadR (.slice ao len cap) l W) {j : Nat} (hj : j < l.length) :
    ∃ g off, ao = some ⟨g, off, none⟩ ∧ W.cell? ⟨g, off + j * 5, none⟩ = some (.string ⟨l[j].name.toArray⟩) ∧ W.cell? ⟨g, off + j * 5 + 1, none⟩ = some (.int .i64 l[j].typ) ∧
    W.cell? ⟨g, off + j * 5 + 2, none⟩ = some (.int .i64 l[j].cls) ∧ W.cell? ⟨g, off + j * 5 + 3, none⟩ = some (.int .i64 l[j].ttl) ∧ W.cell? ⟨g, off + j * 5 + 4, none⟩ = some (.string ⟨l[j].data.toArray⟩) := by
  obtain ⟨ao', cap', e, hc⟩ := h.form
  cases e
  exact hc j hj

set_option maxRecDepth 100000 in
set_option maxHeartbeats 8000000 in
theorem rrs_same (l : List Rd.RR) (va vb : Value) (w : World) (ha : ReadR va l w) (hb' : ReadR vb l w) (hl : l.length ≤ 1000000) :
    Calls Try.prog 36 #[va, vb] w fun e w' => e = .returned (.bool true) ∧ Below w.heap.size w w' := by
  obtain ⟨ao1, cap1, rfl, _⟩ := ha.form
  obtain ⟨ao2, cap2, rfl, _⟩ := hb'.form
  have HNEQ := Lib.hid (fun W a => neq_rr W a)
  go_enter Try.func36, Try.ntmps36
  go_wp2
  go_loopw [5] (fun i wr => ∃ k : Nat, i = .int .i64 (k : Int) ∧ k ≤ l.length ∧ Below w.heap.size w wr) (fun i _ => l.length + 1 - (intOf i).toNat)
  case atStart => exact ⟨0, rfl, by omega, Below.refl _ w⟩
  case round =>
    obtain ⟨k, rfl, hk, hb⟩ := hrel
    by_cases hlt : k < l.length
    · obtain ⟨g1, f1, rfl, x0, x1, x2, x3, x4⟩ := readR_at (readR_below ha hb) hlt
      obtain ⟨g2, f2, rfl, y0, y1, y2, y3, y4⟩ := readR_at (readR_below hb' hb) hlt
      obtain ⟨⟨pa, pb, pc, pd, pe⟩, hpq⟩ : ∃ x, l[k] = x := ⟨_, rfl⟩
      rw [hpq] at x0 x1 x2 x3 x4 y0 y1 y2 y3 y4
      replace HNEQ := Lib.hid (fun W => HNEQ.out W ⟨pa, pb, pc, pd, pe⟩)
      unfold rrV at HNEQ
      simp only at x0 x1 x2 x3 x4 y0 y1 y2 y3 y4 HNEQ
      clear hpq
      have dW := (Below.refl wr.heap.size wr).drew
      replace x0 := keep_cell dW x0
      replace x1 := keep_cell dW x1
      replace x2 := keep_cell dW x2
      replace x3 := keep_cell dW x3
      replace x4 := keep_cell dW x4
      replace y0 := keep_cell dW y0
      replace y1 := keep_cell dW y1
      replace y2 := keep_cell dW y2
      replace y3 := keep_cell dW y3
      replace y4 := keep_cell dW y4
      clear dW
      go_wp2_with fail
      refine wp_region_slots slotLe (slotPhi ((fun v _ => v = ?sr17) :: (fun v _ => v = ?sr18) :: (fun v _ => v = ?sr19) :: (fun v _ => v = ?sr20) :: (fun v _ => v = ?sr21) :: (fun v _ => v = ?sr22) :: (fun v _ => v = ?sr23) :: (fun v _ => v = ?sr24) :: (fun v _ => v = ?sr25) :: [])) slotLe_refl slotLe_trans (slotPhi_stable ?stb) (by kernel_rfl) (by kernel_rfl) (by kernel_rfl) ?steps ?fin
      case stb =>
        refine ⟨by intro _ _ _ _ h; exact h, ?_⟩
        refine ⟨by intro _ _ _ _ h; exact h, ?_⟩
        refine ⟨by intro _ _ _ _ h; exact h, ?_⟩
        refine ⟨by intro _ _ _ _ h; exact h, ?_⟩
        refine ⟨by intro _ _ _ _ h; exact h, ?_⟩
        refine ⟨by intro _ _ _ _ h; exact h, ?_⟩
        refine ⟨by intro _ _ _ _ h; exact h, ?_⟩
        refine ⟨by intro _ _ _ _ h; exact h, ?_⟩
        refine ⟨by intro _ _ _ _ h; exact h, ?_⟩
        exact trivial
      case steps =>
        refine ⟨?_, ?_⟩
        · intro a W K N hK
          have e0 : a.tmps[0]?.getD undef = .slice (some ⟨g1, f1, none⟩) l.length cap1 := N.was' 0 _ (by kernel_rfl) rfl
          rw [if_pos (wanted_no rfl)]
          go_simp
          refine hK _ _ (slotLe_refl _) ?_
          exact rfl
        refine ⟨?_, ?_⟩
        · intro a W K N hK
          have e5 : a.tmps[5]?.getD undef = .int .i64 (k : Int) := N.was' 5 _ (by kernel_rfl) rfl
          rw [if_pos (wanted_no rfl)]
          go_simp
          refine hK _ _ (slotLe_refl _) ?_
          exact rfl
        refine ⟨?_, ?_⟩
        · intro a W K N hK
          have e17 : a.tmps[17]?.getD undef = _ := N.dep' 0 17 (by kernel_rfl)
          have e18 : a.tmps[18]?.getD undef = _ := N.dep' 1 18 (by kernel_rfl)
          rw [if_pos (wanted_no rfl)]
          go_simp
          refine hK _ _ (slotLe_refl _) ?_
          exact rfl
        refine ⟨?_, ?_⟩
        · intro a W K N hK
          have e19 : a.tmps[19]?.getD undef = _ := N.dep' 2 19 (by kernel_rfl)
          rw [if_pos (wanted_no rfl)]
          have z0 := keep_cell N.le x0
          have z1 := keep_cell N.le x1
          have z2 := keep_cell N.le x2
          have z3 := keep_cell N.le x3
          have z4 := keep_cell N.le x4
          go_simp
          refine hK _ _ (slotLe_refl _) ?_
          exact rfl
        refine ⟨?_, ?_⟩
        · intro a W K N hK
          have e1 : a.tmps[1]?.getD undef = .slice (some ⟨g2, f2, none⟩) l.length cap2 := N.was' 1 _ (by kernel_rfl) rfl
          rw [if_pos (wanted_no rfl)]
          go_simp
          refine hK _ _ (slotLe_refl _) ?_
          exact rfl
        refine ⟨?_, ?_⟩
        · intro a W K N hK
          have e5 : a.tmps[5]?.getD undef = .int .i64 (k : Int) := N.was' 5 _ (by kernel_rfl) rfl
          rw [if_pos (wanted_no rfl)]
          go_simp
          refine hK _ _ (slotLe_refl _) ?_
          exact rfl
        refine ⟨?_, ?_⟩
        · intro a W K N hK
          have e21 : a.tmps[21]?.getD undef = _ := N.dep' 4 21 (by kernel_rfl)
          have e22 : a.tmps[22]?.getD undef = _ := N.dep' 5 22 (by kernel_rfl)
          rw [if_pos (wanted_no rfl)]
          go_simp
          refine hK _ _ (slotLe_refl _) ?_
          exact rfl
        refine ⟨?_, ?_⟩
        · intro a W K N hK
          have e23 : a.tmps[23]?.getD undef = _ := N.dep' 6 23 (by kernel_rfl)
          rw [if_pos (wanted_no rfl)]
          have z0 := keep_cell N.le y0
          have z1 := keep_cell N.le y1
          have z2 := keep_cell N.le y2
          have z3 := keep_cell N.le y3
          have z4 := keep_cell N.le y4
          go_simp
          refine hK _ _ (slotLe_refl _) ?_
          exact rfl
        refine ⟨?_, ?_⟩
        · intro a W K N hK
          have e20 : a.tmps[20]?.getD undef = _ := N.dep' 3 20 (by kernel_rfl)
          have e24 : a.tmps[24]?.getD undef = _ := N.dep' 7 24 (by kernel_rfl)
          rw [if_pos (wanted_no rfl)]
          have hn := HNEQ.out
          go_simp
          refine hK _ _ (slotLe_refl _) ?_
          exact rfl
        exact trivial
      case fin =>
        intro W1 hW1
        simp only [FinAll, slotPhi, List.getD_cons_zero, List.getD_cons_succ, forall_eq, Act.put, List.setIfInBounds_toArray, List.set_cons_zero, List.set_cons_succ]
        have bW1 := below_trans hb (below_undrew hW1)
        go_wp2_with fail
        go_roundw
        case rel => exact ⟨k + 1, by go_num, by omega, bW1⟩
        case measure => simp [intOf]; omega
    · obtain rfl : k = l.length := by omega
      go_wp2
      go_ret
      exact ⟨rfl, hb⟩

/-! ### Messages -/
def encQ (q : Ms.Q) : List Value := [.string ⟨q.name.toArray⟩, .int .i64 q.typ, .int .i64 q.cls]
theorem encQ_len (q : Ms.Q) : (encQ q).length = 3 := rfl
theorem encQ_one (q : Ms.Q) : ∀ u ∈ encQ q, u.oneCell' = true := fun u hu => by
  simp only [encQ, List.mem_cons, List.not_mem_nil, or_false] at hu
  rcases hu with rfl | rfl | rfl <;> rfl
structure ReadQ (v : Value) (l : List Ms.Q) (W : World) : Prop where
  form : ∃ ao cap, v = .slice ao l.length cap ∧ ∀ (j : Nat) (h : j < l.length), ∃ g off, ao = some ⟨g, off, none⟩ ∧ W.cell? ⟨g, off + j * 3, none⟩ = some (.string ⟨l[j].name.toArray⟩) ∧ W.cell? ⟨g, off + j * 3 + 1, none⟩ = some (.int .i64 l[j].typ) ∧ W.cell? ⟨g, off + j * 3 + 2, none⟩ = some (.int .i64 l[j].cls)
theorem readQ_nil (W : World) : ReadQ (.slice none 0 0) [] W := ⟨none, 0, rfl, fun j hj => by simp at hj⟩
theorem readQ_own {base : Nat} {v : Value} {l : List Ms.Q} {W : World} (h : OwnK encQ 3 36 base v l W) : ReadQ v l W := by
  obtain ⟨ao, cap, rfl, hao⟩ := ownK_form h
  refine ⟨ao, cap, rfl, fun j hj => ?_⟩
  obtain ⟨g, rfl⟩ := hao (fun e => by rw [e] at hj; simp at hj)
  exact ⟨g, 0, rfl, ownK_cell encQ_len h hj (i := 0) (by omega), ownK_cell encQ_len h hj (i := 1) (by omega), ownK_cell encQ_len h hj (i := 2) (by omega)⟩
theorem readQ_below {v : Value} {l : List Ms.Q} {W W' : World} (h : ReadQ v l W) (hb : Below W.heap.size W W') : ReadQ v l W' := by
  obtain ⟨ao, cap, rfl, hc⟩ := h.form
  exact ⟨ao, cap, rfl, fun j hj => by
    obtain ⟨g, off, e, c0, c1, c2⟩ := hc j hj
    exact ⟨g, off, e, (hb.cell (cell_lt c0)).trans c0, (hb.cell (cell_lt c1)).trans c1, (hb.cell (cell_lt c2)).trans c2⟩⟩
theorem readQ_at {ao : Option Addr} {len cap : Nat} {l : List Ms.Q} {W : World} (h : ReadQ (.slice ao len cap) l W) {j : Nat} (hj : j < l.length) :
    ∃ g off, ao = some ⟨g, off, none⟩ ∧ W.cell? ⟨g, off + j * 3, none⟩ = some (.string ⟨l[j].name.toArray⟩) ∧ W.cell? ⟨g, off + j * 3 + 1, none⟩ = some (.int .i64 l[j].typ) ∧ W.cell? ⟨g, off + j * 3 + 2, none⟩ = some (.int .i64 l[j].cls) := by
  obtain ⟨ao', cap', e, hc⟩ := h.form
  cases e
  exact hc j hj
/-- A message as it lies in a frame, over the values of its four lists. -/
def msgV (m : Ms.M) (vq va vn vd : Value) : Value := .agg #[.int .i64 m.id, .bool m.resp, .int .i64 m.opc, .bool m.auth, .bool m.cut, .bool m.des, .bool m.avl, .int .i64 m.code, vq, va, vn, vd, .bool m.edns, .int .i64 m.size]
structure Lists (m : Ms.M) (vq va vn vd : Value) (W : World) : Prop where
  qs : ReadQ vq m.qs W
  an : ReadR va m.an W
  ns : ReadR vn m.ns W
  ad : ReadR vd m.ad W
theorem Lists.below {m : Ms.M} {vq va vn vd : Value} {W W' : World} (h : Lists m vq va vn vd W) (hb : Below W.heap.size W W') : Lists m vq va vn vd W' :=
  ⟨readQ_below h.qs hb, readR_below h.an hb, readR_below h.ns hb, readR_below h.ad hb⟩
structure Short (m : Ms.M) : Prop where
  qs : m.qs.length ≤ 1000000
  an : m.an.length ≤ 1000000
  ns : m.ns.length ≤ 1000000
  ad : m.ad.length ≤ 1000000
theorem fieldsQ : Try.prog.fieldsOf 36 = #[{ name := "Name", type := 9, offset := 0, embedded := false, tag := "", pkgPath := "", byteOffset := 0 }, { name := "Type", type := 3, offset := 1, embedded := false, tag := "", pkgPath := "", byteOffset := 16 },
    { name := "Class", type := 3, offset := 2, embedded := false, tag := "", pkgPath := "", byteOffset := 24 }] := by
  unfold Program.fieldsOf
  rw [Try.underlying36]
theorem heldQ : Try.prog.stoodInHeld 36 = false := by kernel_rfl
theorem neq_q (W : World) (n : List UInt8) (t c : Int) : (binOp .neq 36 (.agg #[.string ⟨n.toArray⟩, .int .i64 t, .int .i64 c]) (.agg #[.string ⟨n.toArray⟩, .int .i64 t, .int .i64 c])).run Try.prog W = .ok (.bool false) W := by
  rw [run_neq_struct, run_equalIn_struct W 9999 36 _ _ (by rw [fieldsQ]; exact Try.underlying36) heldQ, fieldsQ]
  simp [Op.eqFields, go_sem]

set_option maxRecDepth 100000 in
set_option maxHeartbeats 16000000 in
theorem message_same (m : Ms.M) (vq va vn vd uq ua un ud : Value) (w : World) (ha : Lists m vq va vn vd w) (hb : Lists m uq ua un ud w) (hs : Short m) :
    Calls Try.prog 9 #[msgV m vq va vn vd, msgV m uq ua un ud] w fun e w' => e = .returned (.bool true) ∧ Below w.heap.size w w' := by
  have HNEQ := Lib.hid (fun W n t c => neq_q W n t c)
  have HA := Lib.hid ha
  have HB := Lib.hid hb
  have hsq := hs.qs
  have C1 := Lib.hid (fun W (h1 : ReadR va m.an W) (h2 : ReadR ua m.an W) => rrs_same m.an va ua W h1 h2 hs.an)
  have C2 := Lib.hid (fun W (h1 : ReadR vn m.ns W) (h2 : ReadR un m.ns W) => rrs_same m.ns vn un W h1 h2 hs.ns)
  have C3 := Lib.hid (fun W (h1 : ReadR vd m.ad W) (h2 : ReadR ud m.ad W) => rrs_same m.ad vd ud W h1 h2 hs.ad)
  obtain ⟨aoq1, capq1, rfl, _⟩ := ha.qs.form
  obtain ⟨aoq2, capq2, rfl, _⟩ := hb.qs.form
  clear ha hb hs
  obtain ⟨id, resp, opc, auth, cut, des, avl, code, qs, an, ns, ad, edns, size⟩ := m
  unfold msgV
  simp only at hsq C1 C2 C3 ⊢
  go_enter Try.func9, Try.ntmps9
  go_wp2
  go_loopw [5] (fun i wr => ∃ k : Nat, i = .int .i64 (k : Int) ∧ k ≤ qs.length ∧ Below w.heap.size w wr ∧ Block wr w.heap.size #[.int .i64 id, .bool resp, .int .i64 opc, .bool auth, .bool cut, .bool des, .bool avl, .int .i64 code, .slice aoq1 qs.length capq1, va, vn, vd, .bool edns, .int .i64 size] 27 ∧ Block wr (w.heap.size + 1) #[.int .i64 id, .bool resp, .int .i64 opc, .bool auth, .bool cut, .bool des, .bool avl, .int .i64 code, .slice aoq2 qs.length capq2, ua, un, ud, .bool edns, .int .i64 size] 27) (fun i _ => qs.length + 1 - (intOf i).toNat)
  case atStart => exact ⟨0, rfl, by omega, ((Below.refl _ w).alloc (Nat.le_refl _) _).alloc (by simp) _, (Block.new w _ _).alloc _, by have := Block.new (w.alloc (.cells #[.int .i64 id, .bool resp, .int .i64 opc, .bool auth, .bool cut, .bool des, .bool avl, .int .i64 code, .slice aoq1 qs.length capq1, va, vn, vd, .bool edns, .int .i64 size] 27)) #[.int .i64 id, .bool resp, .int .i64 opc, .bool auth, .bool cut, .bool des, .bool avl, .int .i64 code, .slice aoq2 qs.length capq2, ua, un, ud, .bool edns, .int .i64 size] 27; rw [World.size_alloc] at this; exact this⟩
  case round =>
    obtain ⟨k, rfl, hk, hbl, ka, kb⟩ := hrel
    have dW := (Below.refl wr.heap.size wr).drew
    by_cases hlt : k < qs.length
    · obtain ⟨g1, f1, rfl, x0, x1, x2⟩ := readQ_at (readQ_below HA.out.qs hbl) hlt
      obtain ⟨g2, f2, rfl, y0, y1, y2⟩ := readQ_at (readQ_below HB.out.qs hbl) hlt
      simp only at x0 x1 x2 y0 y1 y2
      obtain ⟨⟨pa, pb, pc⟩, hpq⟩ : ∃ x, qs[k] = x := ⟨_, rfl⟩
      rw [hpq] at x0 x1 x2 y0 y1 y2
      simp only at x0 x1 x2 y0 y1 y2
      clear hpq
      replace x0 := keep_cell dW x0
      replace x1 := keep_cell dW x1
      replace x2 := keep_cell dW x2
      replace y0 := keep_cell dW y0
      replace y1 := keep_cell dW y1
      replace y2 := keep_cell dW y2
      have qa8 := (ka.below dW).cell (i := 8) rfl
      have qb8 := (kb.below dW).cell (i := 8) rfl
      have ca8 := ka.cell (i := 8) rfl
      have cb8 := kb.cell (i := 8) rfl
      clear dW
      go_wp2_with fail
      refine wp_region_slots slotLe (slotPhi ((fun v _ => v = ?sm90) :: (fun v _ => v = ?sm91) :: (fun v _ => v = ?sm92) :: (fun v _ => v = ?sm93) :: (fun v _ => v = ?sm94) :: (fun v _ => v = ?sm95) :: (fun v _ => v = ?sm96) :: (fun v _ => v = ?sm97) :: (fun v _ => v = ?sm98) :: (fun v _ => v = ?sm99) :: (fun v _ => v = ?sm100) :: [])) slotLe_refl slotLe_trans (slotPhi_stable ?stb) (by kernel_rfl) (by kernel_rfl) (by kernel_rfl) ?steps ?fin
      case stb =>
        refine ⟨by intro _ _ _ _ h; exact h, ?_⟩
        refine ⟨by intro _ _ _ _ h; exact h, ?_⟩
        refine ⟨by intro _ _ _ _ h; exact h, ?_⟩
        refine ⟨by intro _ _ _ _ h; exact h, ?_⟩
        refine ⟨by intro _ _ _ _ h; exact h, ?_⟩
        refine ⟨by intro _ _ _ _ h; exact h, ?_⟩
        refine ⟨by intro _ _ _ _ h; exact h, ?_⟩
        refine ⟨by intro _ _ _ _ h; exact h, ?_⟩
        refine ⟨by intro _ _ _ _ h; exact h, ?_⟩
        refine ⟨by intro _ _ _ _ h; exact h, ?_⟩
        refine ⟨by intro _ _ _ _ h; exact h, ?_⟩
        exact trivial
      case steps =>
        refine ⟨?_, ?_⟩
        · intro a W K N hK
          have e2 : a.tmps[2]?.getD undef = .pointer (some ⟨w.heap.size, 0, none⟩) := N.was' 2 _ (by kernel_rfl) rfl
          rw [if_pos (wanted_no rfl)]
          go_simp
          refine hK _ _ (slotLe_refl _) ?_
          exact rfl
        refine ⟨?_, ?_⟩
        · intro a W K N hK
          have e90 : a.tmps[90]?.getD undef = _ := N.dep' 0 90 (by kernel_rfl)
          rw [if_pos (wanted_no rfl)]
          have zz := keep_cell N.le qa8
          go_simp
          refine hK _ _ (slotLe_refl _) ?_
          exact rfl
        refine ⟨?_, ?_⟩
        · intro a W K N hK
          have e5 : a.tmps[5]?.getD undef = .int .i64 (k : Int) := N.was' 5 _ (by kernel_rfl) rfl
          rw [if_pos (wanted_no rfl)]
          go_simp
          refine hK _ _ (slotLe_refl _) ?_
          exact rfl
        refine ⟨?_, ?_⟩
        · intro a W K N hK
          have e91 : a.tmps[91]?.getD undef = _ := N.dep' 1 91 (by kernel_rfl)
          have e92 : a.tmps[92]?.getD undef = _ := N.dep' 2 92 (by kernel_rfl)
          rw [if_pos (wanted_no rfl)]
          go_simp
          refine hK _ _ (slotLe_refl _) ?_
          exact rfl
        refine ⟨?_, ?_⟩
        · intro a W K N hK
          have e93 : a.tmps[93]?.getD undef = _ := N.dep' 3 93 (by kernel_rfl)
          rw [if_pos (wanted_no rfl)]
          have z0 := keep_cell N.le x0
          have z1 := keep_cell N.le x1
          have z2 := keep_cell N.le x2
          go_simp
          refine hK _ _ (slotLe_refl _) ?_
          exact rfl
        refine ⟨?_, ?_⟩
        · intro a W K N hK
          have e3 : a.tmps[3]?.getD undef = .pointer (some ⟨w.heap.size + 1, 0, none⟩) := N.was' 3 _ (by kernel_rfl) rfl
          rw [if_pos (wanted_no rfl)]
          go_simp
          refine hK _ _ (slotLe_refl _) ?_
          exact rfl
        refine ⟨?_, ?_⟩
        · intro a W K N hK
          have e95 : a.tmps[95]?.getD undef = _ := N.dep' 5 95 (by kernel_rfl)
          rw [if_pos (wanted_no rfl)]
          have zz := keep_cell N.le qb8
          go_simp
          refine hK _ _ (slotLe_refl _) ?_
          exact rfl
        refine ⟨?_, ?_⟩
        · intro a W K N hK
          have e5 : a.tmps[5]?.getD undef = .int .i64 (k : Int) := N.was' 5 _ (by kernel_rfl) rfl
          rw [if_pos (wanted_no rfl)]
          go_simp
          refine hK _ _ (slotLe_refl _) ?_
          exact rfl
        refine ⟨?_, ?_⟩
        · intro a W K N hK
          have e96 : a.tmps[96]?.getD undef = _ := N.dep' 6 96 (by kernel_rfl)
          have e97 : a.tmps[97]?.getD undef = _ := N.dep' 7 97 (by kernel_rfl)
          rw [if_pos (wanted_no rfl)]
          go_simp
          refine hK _ _ (slotLe_refl _) ?_
          exact rfl
        refine ⟨?_, ?_⟩
        · intro a W K N hK
          have e98 : a.tmps[98]?.getD undef = _ := N.dep' 8 98 (by kernel_rfl)
          rw [if_pos (wanted_no rfl)]
          have z0 := keep_cell N.le y0
          have z1 := keep_cell N.le y1
          have z2 := keep_cell N.le y2
          go_simp
          refine hK _ _ (slotLe_refl _) ?_
          exact rfl
        refine ⟨?_, ?_⟩
        · intro a W K N hK
          have e94 : a.tmps[94]?.getD undef = _ := N.dep' 4 94 (by kernel_rfl)
          have e99 : a.tmps[99]?.getD undef = _ := N.dep' 9 99 (by kernel_rfl)
          rw [if_pos (wanted_no rfl)]
          have hn := HNEQ.out
          go_simp
          refine hK _ _ (slotLe_refl _) ?_
          exact rfl
        exact trivial
      case fin =>
        intro W1 hW1
        simp only [FinAll, slotPhi, List.getD_cons_zero, List.getD_cons_succ, forall_eq, Act.put, List.setIfInBounds_toArray, List.set_cons_zero, List.set_cons_succ]
        have bU := below_undrew hW1
        have bW1 := below_trans hbl bU
        go_wp2_with fail
        go_roundw
        case rel => exact ⟨k + 1, by go_num, by omega, bW1, ka.below bU, kb.below bU⟩
        case measure => simp [intOf]; omega
    · obtain rfl : k = qs.length := by omega
      clear dW
      have pa8 := ka.cell (i := 8) rfl
      have pb8 := kb.cell (i := 8) rfl
      have pa9 := ka.cell (i := 9) rfl
      have pb9 := kb.cell (i := 9) rfl
      go_wp2_with fail
      refine (C1.out _ (HA.out.below hbl).an (HB.out.below hbl).an).mono ?_
      rintro e w1 ⟨rfl, b1⟩
      clear pa8 pb8 pa9 pb9
      replace ka := ka.below b1
      replace kb := kb.below b1
      replace b1 := below_trans hbl b1
      have pa10 := ka.cell (i := 10) rfl
      have pb10 := kb.cell (i := 10) rfl
      go_wp2_with fail
      refine (C2.out _ (HA.out.below b1).ns (HB.out.below b1).ns).mono ?_
      rintro e w2 ⟨rfl, b2⟩
      clear pa10 pb10
      replace ka := ka.below b2
      replace kb := kb.below b2
      replace b2 := below_trans b1 b2
      have pa11 := ka.cell (i := 11) rfl
      have pb11 := kb.cell (i := 11) rfl
      go_wp2_with fail
      refine (C3.out _ (HA.out.below b2).ad (HB.out.below b2).ad).mono ?_
      rintro e w3 ⟨rfl, b3⟩
      replace b3 := below_trans b2 b3
      go_wp2
      go_ret
      exact ⟨rfl, b3⟩
end Go.Proofs.Ytdodamkndigjkaa

/- Lists of questions, copied. -/
set_option maxRecDepth 100000
namespace Go.Proofs.Ytdodamkndigjkaa
open Go.RowKit Go.Shelf Go.Maps
attribute [local go_sem] Oper.semAt_some

theorem infoQ' : (Try.prog.info? 36).map (fun i => (i.zero, i.size, i.bytes)) = some (some (.agg #[.string ⟨#[]⟩, .int .i64 0, .int .i64 0]), 3, 32) := by kernel_rfl
theorem readQ_cells {g off cap : Nat} {l : List Ms.Q} {W : World} (h : ReadQ (.slice (some ⟨g, off, none⟩) l.length cap) l W) (j : Nat) (u : Value) (hu : (l.flatMap encQ)[j]? = some u) : W.cell? ((⟨g, off, none⟩ : Addr).add j) = some u := by
  obtain ⟨hj, hx⟩ := flat_at encQ 3 encQ_len (by omega) l j u hu
  obtain ⟨ao', cap', e, hc⟩ := h.form
  cases e
  obtain ⟨g', off', e, c0, c1, c2⟩ := hc (j / 3) hj
  cases e
  have e2 : (⟨g, off, none⟩ : Addr).add j = ⟨g, off + j, none⟩ := by unfold Addr.add; split <;> simp_all
  rw [e2]
  have hm : j % 3 = 0 ∨ j % 3 = 1 ∨ j % 3 = 2 := by omega
  have hd : off + j = off + j / 3 * 3 + j % 3 := by omega
  unfold encQ at hx
  rcases hm with h | h | h
  all_goals
    rw [h] at hx hd
    simp only [List.getElem?_cons_zero, List.getElem?_cons_succ, Option.some.injEq] at hx
    rw [hd, ← hx]
    assumption
theorem run_apQ (w : World) (base : Nat) (ty : TypeId) (v : Value) (l : List Ms.Q) (hown : OwnK encQ 3 36 base v l w) (x : Value) (news : List Ms.Q) (hx : ReadQ x news w) (b1 : l.length + news.length ≤ 1000000) (hb : base ≤ w.heap.size) :
    ∃ v' w', (Builtin.append_ #[24, 24] ty #[v, x]).run Try.prog w = .ok v' w' ∧ OwnK encQ 3 36 base v' (l ++ news) w' ∧ w.grownBy w' v.ownBlock ∧ (v'.ownBlock = v.ownBlock ∨ v'.ownBlock = some w.heap.size) := by
  obtain ⟨ao, cap, rfl, hc⟩ := hx.form
  cases ao with
  | none =>
    have hn : news = [] := by
      cases news with
      | nil => rfl
      | cons a l2 => obtain ⟨_, _, e, _⟩ := hc 0 (by simp); cases e
    subst hn
    obtain ⟨i, hi, hz0, hz1, hz2⟩ := info_parts infoQ'
    have hform : ∃ ao n c, v = .slice ao n c ∧ n ≤ c := by
      rcases hown.2 with ⟨rfl, hn⟩ | ⟨g, cap', cur, rfl, _, _, hle, _⟩
      · exact ⟨none, 0, 0, rfl, Nat.le_refl _⟩
      · exact ⟨_, _, _, rfl, hle⟩
    obtain ⟨ao, n, c, rfl, hle⟩ := hform
    exact ⟨_, _, run_append_nothing (P := Try.prog) w 24 24 ty 36 i Try.underlying24 hi ao n c hle _ (Src.ofNil w Try.underlying24 cap), by rw [List.append_nil]; exact hown, ⟨rfl, rfl, rfl, Nat.le_refl _, fun _ _ _ => rfl⟩, .inl rfl⟩
  | some ad =>
    by_cases h0 : news = []
    · subst h0
      exact run_apk (P := Try.prog) encQ 3 encQ_len (by omega) encQ_one w base 24 ty 36 _ 32 Try.underlying24 infoQ' rfl v l hown ad 0 cap [] rfl (fun j u hj => by simp at hj) (by simp at b1; omega) (by omega) hb
    · obtain ⟨g, off, e, _⟩ := hc 0 (by cases news with | nil => exact absurd rfl h0 | cons => simp)
      cases e
      exact run_apk (P := Try.prog) encQ 3 encQ_len (by omega) encQ_one w base 24 ty 36 _ 32 Try.underlying24 infoQ' rfl v l hown ⟨g, off, none⟩ news.length cap news rfl (fun j u hj => readQ_cells ⟨_, cap, rfl, hc⟩ j u hj) b1 (by omega) hb

/-- At the operation. -/
theorem wpList_apQ (w : World) {ops : Array Oper} {rest : List Oper} {o : Oper} {a : Act} {Q : Exit → Act → World → Prop} (hg : o.guard = none) (s x : Operand)
    (hop : o.op = Op.call { callee := Callee.builtin Builtin.append, args := #[s, x], argTypes := #[24, 24] })
    (base : Nat) (v : Value) (l : List Ms.Q) (hs : a.eval s = v) (hown : OwnK encQ 3 36 base v l w) (xv : Value) (news : List Ms.Q) (hx : a.eval x = xv) (hr : ReadQ xv news w) (b1 : l.length + news.length ≤ 1000000) (hb : base ≤ w.heap.size)
    (hK : ∀ v' w', OwnK encQ 3 36 base v' (l ++ news) w' → w.grownBy w' v.ownBlock → (v'.ownBlock = v.ownBlock ∨ v'.ownBlock = some w.heap.size) → wpList Try.prog ops Q rest (a.put o.dst v') w') :
    wpList Try.prog ops Q (o :: rest) a w := by
  refine wpList_plain hg fun K hK' => ?_
  obtain ⟨v', w', hrun, r1, r2, r3⟩ := run_apQ w base o.type v l hown xv news hr b1 hb
  unfold Oper.wp
  simp [execOp, hop, resolve, invoke, builtin, hs, hx, hrun, Result.andThen]
  exact hK' _ _ (hK v' w' r1 r2 r3)
theorem eql_sliceQ (W : World) (x : Option Addr) (n c : Nat) : (binOp .eql 24 (.slice x n c) (.slice none 0 0)).run Try.prog W = .ok (.bool x.isNone) W := by
  simp only [binOp]
  simp [Op.equal, Op.maxDepth, equalIn_slice W 9999 24 x n c Try.underlying24]

set_option maxRecDepth 100000 in
set_option maxHeartbeats 2000000 in
theorem qclone_any (l : List Ms.Q) (bv : Value) (w : World) (hr : ReadQ bv l w) (hl : l.length ≤ 100000) :
    Calls Try.prog 66 #[bv] w fun e w' => ∃ v, e = .returned v ∧ OwnK encQ 3 36 w.heap.size v l w' ∧ Below w.heap.size w w' := by
  have hr' := hr
  obtain ⟨ao, cap, rfl, hc⟩ := hr.form
  cases ao with
  | none =>
    have hn : l = [] := by
      cases l with
      | nil => rfl
      | cons a l2 => obtain ⟨_, _, e, _⟩ := hc 0 (by simp); cases e
    subst hn
    clear hc hr hr'
    have heq := eql_sliceQ w none 0 cap
    go_enter Try.func66, Try.ntmps66
    go_wp2_with fail
    go_ret
    exact ⟨_, rfl, ownK_nil _ _ _ _ _, Below.refl _ _⟩
  | some ad =>
    have HR := Lib.hid hr'
    clear hc hr hr'
    have hown : OwnK encQ 3 36 w.heap.size (.slice (some ⟨w.heap.size, 0, none⟩) 0 0) [] (w.alloc (.cells #[] 36)) :=
      ⟨rfl, .inr ⟨w.heap.size, 0, #[], rfl, Nat.le_refl _, World.alloc_heap_new w _, Nat.le_refl _, by unfold maxLen; omega, rfl, rfl⟩⟩
    have HO := Lib.hid hown
    clear hown
    have heq := eql_sliceQ w (some ad) l.length cap
    go_enter Try.func66, Try.ntmps66
    go_wp2_with (refine wpList_apQ _ rfl _ _ rfl w.heap.size _ [] rfl HO.out _ l rfl (readQ_below HR.out ((Below.refl _ _).alloc (Nat.le_refl _) _)) (by simp; omega) (by simp) ?_; intro v1 w1 ho1 hg1 hv1; have hb1 := below_ownK HO.out hg1 (by simp); obtain ⟨ao1, cp1, rfl, _⟩ := ownK_form ho1; have HO1 := Lib.hid ho1; clear ho1 hg1 hv1)
    go_ret
    exact ⟨_, rfl, HO1.out, ((Below.refl _ _).alloc (Nat.le_refl _) _).trans hb1⟩

set_option maxRecDepth 100000 in
set_option maxHeartbeats 2000000 in
theorem qcopied_any (l : List Ms.Q) (bv : Value) (w : World) (hr : ReadQ bv l w) (hl : l.length ≤ 100000) (hs : ∀ q ∈ l, q.name.length ≤ 100000) :
    Calls Try.prog 37 #[bv] w fun e w' => ∃ v, e = .returned v ∧ OwnK encQ 3 36 w.heap.size v l w' ∧ Below w.heap.size w w' := by
  have HCL := Lib.hid (qclone_any l bv w hr hl)
  clear hr
  go_enter Try.func37, Try.ntmps37
  go_wp2_with fail
  refine HCL.out.mono ?_
  rintro e w1 ⟨v1, rfl, ho, hb1⟩
  obtain ⟨ao, cap, rfl, hao⟩ := ownK_form ho
  go_wp2_with fail
  go_loopw [9] (fun i wr => ∃ k : Nat, i = .int .i64 (k : Int) ∧ k ≤ l.length ∧ Hid (OwnK encQ 3 36 w.heap.size (.slice ao l.length cap) l wr) ∧ Below w.heap.size w wr) (fun i _ => l.length + 1 - (intOf i).toNat)
  case atStart => exact ⟨0, rfl, by omega, Lib.hid ho, hb1⟩
  case round =>
    obtain ⟨k, rfl, hk, ho2, hb⟩ := hrel
    by_cases hlt : k < l.length
    · obtain ⟨g, rfl⟩ := hao (fun e => by rw [e] at hlt; simp at hlt)
      have c0 := ownK_cell encQ_len ho2.out hlt (i := 0) (by omega)
      have c1 := ownK_cell encQ_len ho2.out hlt (i := 1) (by omega)
      have c2 := ownK_cell encQ_len ho2.out hlt (i := 2) (by omega)
      have hn := hs l[k] (List.getElem_mem hlt)
      obtain ⟨⟨pn, pt, pc⟩, hpq⟩ : ∃ x, l[k] = x := ⟨_, rfl⟩
      rw [hpq] at c0 c1 c2 hn
      simp only [encQ, List.getElem?_cons_zero, List.getElem?_cons_succ, Nat.add_zero, Nat.zero_add] at c0 c1 c2 hn
      clear hpq
      have HN := Lib.hid hn
      clear hn
      have HC := Lib.hid (fun W => clone_any pn W (by have := HN.out; omega))
      have bA := Lib.hid ((Below.refl wr.heap.size wr).alloc (Nat.le_refl _) (.cells #[.string ⟨pn.toArray⟩, .int .i64 pt, .int .i64 pc] 36))
      go_wp2_with (first
        | (go_at_call 67; refine (HC.out _).mono ?_; rintro e w4 ⟨rfl, b4⟩; have B4 := Lib.hid (below_trans bA.out b4); have z0 := keep_cell B4.out c0; have f0 := ownK_frozen ho2.out B4.out (k * 3); clear b4; refine Hid.out ?_))
      refine Lib.hid ?_
      go_wp2_with fail
      rw [setCell_same z0]
      go_roundw
      case rel => exact ⟨k + 1, by go_num, by omega, Lib.hid (ownK_below ho2.out B4.out), below_trans hb B4.out⟩
      case measure => simp [intOf]; omega
    · go_wp2_with fail
      go_ret
      exact ⟨_, rfl, ho2.out, hb⟩
end Go.Proofs.Ytdodamkndigjkaa
