/- What the laws hold messages against each other by: RRs, Message. -/
import Derived.Test.YtfmghbmbahembaaJB8
import Derived.Test.YtfmghbmbahembaaJB15
import Derived.Test.YtfmghbmbahembaaJB16
/- What the laws hold messages against each other by: RRs, Message. -/
namespace Go.Proofs.Ytfmghbmbahembaa
open Go.RowKit Go.Shelf
attribute [local go_sem] Oper.semAt_some

theorem neq_rr (W : World) (a : Rd.RR) : (binOp .neq 45 (rrV a) (rrV a)).run Try.prog W = .ok (.bool false) W := by
  obtain ⟨n, t, c, l, d⟩ := a
  unfold rrV
  simp only
  rw [run_neq_struct, run_equalIn_struct W 9999 45 _ _ (by rw [fieldsRR]; exact Try.underlying45) heldRR, fieldsRR]
  simp [Op.eqFields, go_sem]
theorem readR_at {ao : Option Addr} {len cap : Nat} {l : List Rd.RR} {W : World} (h : ReadR (.slice ao len cap) l W) {j : Nat} (hj : j < l.length) :
    ∃ g off, ao = some ⟨g, off, none⟩ ∧ W.cell? ⟨g, off + j * 5, none⟩ = some (.string ⟨l[j].name.toArray⟩) ∧ W.cell? ⟨g, off + j * 5 + 1, none⟩ = some (.int .i64 l[j].typ) ∧
    W.cell? ⟨g, off + j * 5 + 2, none⟩ = some (.int .i64 l[j].cls) ∧ W.cell? ⟨g, off + j * 5 + 3, none⟩ = some (.int .i64 l[j].ttl) ∧ W.cell? ⟨g, off + j * 5 + 4, none⟩ = some (.string ⟨l[j].data.toArray⟩) := by
  obtain ⟨ao', cap', e, hc⟩ := h.form
  cases e
  exact hc j hj

set_option maxRecDepth 100000 in
set_option maxHeartbeats 8000000 in
theorem rrs_same (l : List Rd.RR) (va vb : Value) (w : World) (ha : ReadR va l w) (hb' : ReadR vb l w) (hl : l.length ≤ 1000000) :
    Calls Try.prog 33 #[va, vb] w fun e w' => e = .returned (.bool true) ∧ Below w.heap.size w w' := by
  obtain ⟨ao1, cap1, rfl, _⟩ := ha.form
  obtain ⟨ao2, cap2, rfl, _⟩ := hb'.form
  have HNEQ := Lib.hid (fun W a => neq_rr W a)
  go_enter Try.func33, Try.ntmps33
  go_wp2
  go_loopw [5] (fun i wr => ∃ k : Nat, i = .int .i64 (k : Int) ∧ k ≤ l.length ∧ Below w.heap.size w wr) (fun i _ => l.length + 1 - (intOf i).toNat)
  case atStart => exact ⟨0, rfl, by omega, Below.refl _ w⟩
  case round =>
    obtain ⟨k, rfl, hk, hb⟩ := hrel
    by_cases hlt : k < l.length
    · obtain ⟨g1, f1, rfl, x0, x1, x2, x3, x4⟩ := readR_at (readR_below ha hb) hlt
      obtain ⟨g2, f2, rfl, y0, y1, y2, y3, y4⟩ := readR_at (readR_below hb' hb) hlt
      obtain ⟨⟨pa, pb, pc, pd, pe⟩, hpq⟩ : ∃ x, l[k] = x := ⟨_, rfl⟩
      rw [hpq] at x0 x1 x2 x3 x4 y0 y1 y2 y3 y4
      replace HNEQ := Lib.hid (fun W => HNEQ.out W ⟨pa, pb, pc, pd, pe⟩)
      unfold rrV at HNEQ
      simp only at x0 x1 x2 x3 x4 y0 y1 y2 y3 y4 HNEQ
      clear hpq
      have dW := (Below.refl wr.heap.size wr).drew
      replace x0 := keep_cell dW x0
      replace x1 := keep_cell dW x1
      replace x2 := keep_cell dW x2
      replace x3 := keep_cell dW x3
      replace x4 := keep_cell dW x4
      replace y0 := keep_cell dW y0
      replace y1 := keep_cell dW y1
      replace y2 := keep_cell dW y2
      replace y3 := keep_cell dW y3
      replace y4 := keep_cell dW y4
      clear dW
      go_wp2_with fail
      refine wp_region_slots slotLe (slotPhi ((fun v _ => v = ?sr17) :: (fun v _ => v = ?sr18) :: (fun v _ => v = ?sr19) :: (fun v _ => v = ?sr20) :: (fun v _ => v = ?sr21) :: (fun v _ => v = ?sr22) :: (fun v _ => v = ?sr23) :: (fun v _ => v = ?sr24) :: (fun v _ => v = ?sr25) :: [])) slotLe_refl slotLe_trans (slotPhi_stable ?stb) (by kernel_rfl) (by kernel_rfl) (by kernel_rfl) ?steps ?fin
      case stb =>
        refine ⟨by intro _ _ _ _ h; exact h, ?_⟩
        refine ⟨by intro _ _ _ _ h; exact h, ?_⟩
        refine ⟨by intro _ _ _ _ h; exact h, ?_⟩
        refine ⟨by intro _ _ _ _ h; exact h, ?_⟩
        refine ⟨by intro _ _ _ _ h; exact h, ?_⟩
        refine ⟨by intro _ _ _ _ h; exact h, ?_⟩
        refine ⟨by intro _ _ _ _ h; exact h, ?_⟩
        refine ⟨by intro _ _ _ _ h; exact h, ?_⟩
        refine ⟨by intro _ _ _ _ h; exact h, ?_⟩
        exact trivial
      case steps =>
        refine ⟨?_, ?_⟩
        · intro a W K N hK
          have e0 : a.tmps[0]?.getD undef = .slice (some ⟨g1, f1, none⟩) l.length cap1 := N.was' 0 _ (by kernel_rfl) rfl
          rw [if_pos (wanted_no rfl)]
          go_simp
          refine hK _ _ (slotLe_refl _) ?_
          exact rfl
        refine ⟨?_, ?_⟩
        · intro a W K N hK
          have e5 : a.tmps[5]?.getD undef = .int .i64 (k : Int) := N.was' 5 _ (by kernel_rfl) rfl
          rw [if_pos (wanted_no rfl)]
          go_simp
          refine hK _ _ (slotLe_refl _) ?_
          exact rfl
        refine ⟨?_, ?_⟩
        · intro a W K N hK
          have e17 : a.tmps[17]?.getD undef = _ := N.dep' 0 17 (by kernel_rfl)
          have e18 : a.tmps[18]?.getD undef = _ := N.dep' 1 18 (by kernel_rfl)
          rw [if_pos (wanted_no rfl)]
          go_simp
          refine hK _ _ (slotLe_refl _) ?_
          exact rfl
        refine ⟨?_, ?_⟩
        · intro a W K N hK
          have e19 : a.tmps[19]?.getD undef = _ := N.dep' 2 19 (by kernel_rfl)
          rw [if_pos (wanted_no rfl)]
          have z0 := keep_cell N.le x0
          have z1 := keep_cell N.le x1
          have z2 := keep_cell N.le x2
          have z3 := keep_cell N.le x3
          have z4 := keep_cell N.le x4
          go_simp
          refine hK _ _ (slotLe_refl _) ?_
          exact rfl
        refine ⟨?_, ?_⟩
        · intro a W K N hK
          have e1 : a.tmps[1]?.getD undef = .slice (some ⟨g2, f2, none⟩) l.length cap2 := N.was' 1 _ (by kernel_rfl) rfl
          rw [if_pos (wanted_no rfl)]
          go_simp
          refine hK _ _ (slotLe_refl _) ?_
          exact rfl
        refine ⟨?_, ?_⟩
        · intro a W K N hK
          have e5 : a.tmps[5]?.getD undef = .int .i64 (k : Int) := N.was' 5 _ (by kernel_rfl) rfl
          rw [if_pos (wanted_no rfl)]
          go_simp
          refine hK _ _ (slotLe_refl _) ?_
          exact rfl
        refine ⟨?_, ?_⟩
        · intro a W K N hK
          have e21 : a.tmps[21]?.getD undef = _ := N.dep' 4 21 (by kernel_rfl)
          have e22 : a.tmps[22]?.getD undef = _ := N.dep' 5 22 (by kernel_rfl)
          rw [if_pos (wanted_no rfl)]
          go_simp
          refine hK _ _ (slotLe_refl _) ?_
          exact rfl
        refine ⟨?_, ?_⟩
        · intro a W K N hK
          have e23 : a.tmps[23]?.getD undef = _ := N.dep' 6 23 (by kernel_rfl)
          rw [if_pos (wanted_no rfl)]
          have z0 := keep_cell N.le y0
          have z1 := keep_cell N.le y1
          have z2 := keep_cell N.le y2
          have z3 := keep_cell N.le y3
          have z4 := keep_cell N.le y4
          go_simp
          refine hK _ _ (slotLe_refl _) ?_
          exact rfl
        refine ⟨?_, ?_⟩
        · intro a W K N hK
          have e20 : a.tmps[20]?.getD undef = _ := N.dep' 3 20 (by kernel_rfl)
          have e24 : a.tmps[24]?.getD undef = _ := N.dep' 7 24 (by kernel_rfl)
          rw [if_pos (wanted_no rfl)]
          have hn := HNEQ.out
          go_simp
          refine hK _ _ (slotLe_refl _) ?_
          exact rfl
        exact trivial
      case fin =>
        intro W1 hW1
        simp only [FinAll, slotPhi, List.getD_cons_zero, List.getD_cons_succ, forall_eq, Act.put, List.setIfInBounds_toArray, List.set_cons_zero, List.set_cons_succ]
        have bW1 := below_trans hb (below_undrew hW1)
        go_wp2_with fail
        go_roundw
        case rel => exact ⟨k + 1, by go_num, by omega, bW1⟩
        case measure => simp [intOf]; omega
    · obtain rfl : k = l.length := by omega
      go_wp2
      go_ret
      exact ⟨rfl, hb⟩

/-! ### Messages -/
def encQ (q : Ms.Q) : List Value := [.string ⟨q.name.toArray⟩, .int .i64 q.typ, .int .i64 q.cls]
theorem encQ_len (q : Ms.Q) : (encQ q).length = 3 := rfl
theorem encQ_one (q : Ms.Q) : ∀ u ∈ encQ q, u.oneCell' = true := fun u hu => by
  simp only [encQ, List.mem_cons, List.not_mem_nil, or_false] at hu
  rcases hu with rfl | rfl | rfl <;> rfl
structure ReadQ (v : Value) (l : List Ms.Q) (W : World) : Prop where
  form : ∃ ao cap, v = .slice ao l.length cap ∧ ∀ (j : Nat) (h : j < l.length), ∃ g off, ao = some ⟨g, off, none⟩ ∧ W.cell? ⟨g, off + j * 3, none⟩ = some (.string ⟨l[j].name.toArray⟩) ∧ W.cell? ⟨g, off + j * 3 + 1, none⟩ = some (.int .i64 l[j].typ) ∧ W.cell? ⟨g, off + j * 3 + 2, none⟩ = some (.int .i64 l[j].cls)
theorem readQ_nil (W : World) : ReadQ (.slice none 0 0) [] W := ⟨none, 0, rfl, fun j hj => by simp at hj⟩
theorem readQ_own {base : Nat} {v : Value} {l : List Ms.Q} {W : World} (h : OwnK encQ 3 47 base v l W) : ReadQ v l W := by
  obtain ⟨ao, cap, rfl, hao⟩ := ownK_form h
  refine ⟨ao, cap, rfl, fun j hj => ?_⟩
  obtain ⟨g, rfl⟩ := hao (fun e => by rw [e] at hj; simp at hj)
  exact ⟨g, 0, rfl, ownK_cell encQ_len h hj (i := 0) (by omega), ownK_cell encQ_len h hj (i := 1) (by omega), ownK_cell encQ_len h hj (i := 2) (by omega)⟩
theorem readQ_below {v : Value} {l : List Ms.Q} {W W' : World} (h : ReadQ v l W) (hb : Below W.heap.size W W') : ReadQ v l W' := by
  obtain ⟨ao, cap, rfl, hc⟩ := h.form
  exact ⟨ao, cap, rfl, fun j hj => by
    obtain ⟨g, off, e, c0, c1, c2⟩ := hc j hj
    exact ⟨g, off, e, (hb.cell (cell_lt c0)).trans c0, (hb.cell (cell_lt c1)).trans c1, (hb.cell (cell_lt c2)).trans c2⟩⟩
theorem readQ_at {ao : Option Addr} {len cap : Nat} {l : List Ms.Q} {W : World} (h : ReadQ (.slice ao len cap) l W) {j : Nat} (hj : j < l.length) :
    ∃ g off, ao = some ⟨g, off, none⟩ ∧ W.cell? ⟨g, off + j * 3, none⟩ = some (.string ⟨l[j].name.toArray⟩) ∧ W.cell? ⟨g, off + j * 3 + 1, none⟩ = some (.int .i64 l[j].typ) ∧ W.cell? ⟨g, off + j * 3 + 2, none⟩ = some (.int .i64 l[j].cls) := by
  obtain ⟨ao', cap', e, hc⟩ := h.form
  cases e
  exact hc j hj
/-- A message as it lies in a frame, over the values of its four lists. -/
def msgV (m : Ms.M) (vq va vn vd : Value) : Value := .agg #[.int .i64 m.id, .bool m.resp, .int .i64 m.opc, .bool m.auth, .bool m.cut, .bool m.des, .bool m.avl, .int .i64 m.code, vq, va, vn, vd, .bool m.edns, .int .i64 m.size]
structure Lists (m : Ms.M) (vq va vn vd : Value) (W : World) : Prop where
  qs : ReadQ vq m.qs W
  an : ReadR va m.an W
  ns : ReadR vn m.ns W
  ad : ReadR vd m.ad W
theorem Lists.below {m : Ms.M} {vq va vn vd : Value} {W W' : World} (h : Lists m vq va vn vd W) (hb : Below W.heap.size W W') : Lists m vq va vn vd W' :=
  ⟨readQ_below h.qs hb, readR_below h.an hb, readR_below h.ns hb, readR_below h.ad hb⟩
structure Short (m : Ms.M) : Prop where
  qs : m.qs.length ≤ 1000000
  an : m.an.length ≤ 1000000
  ns : m.ns.length ≤ 1000000
  ad : m.ad.length ≤ 1000000
theorem fieldsQ : Try.prog.fieldsOf 47 = #[{ name := "Name", type := 9, offset := 0, embedded := false, tag := "", pkgPath := "", byteOffset := 0 }, { name := "Type", type := 3, offset := 1, embedded := false, tag := "", pkgPath := "", byteOffset := 16 },
    { name := "Class", type := 3, offset := 2, embedded := false, tag := "", pkgPath := "", byteOffset := 24 }] := by
  unfold Program.fieldsOf
  rw [Try.underlying47]
theorem heldQ : Try.prog.stoodInHeld 47 = false := by kernel_rfl
theorem neq_q (W : World) (n : List UInt8) (t c : Int) : (binOp .neq 47 (.agg #[.string ⟨n.toArray⟩, .int .i64 t, .int .i64 c]) (.agg #[.string ⟨n.toArray⟩, .int .i64 t, .int .i64 c])).run Try.prog W = .ok (.bool false) W := by
  rw [run_neq_struct, run_equalIn_struct W 9999 47 _ _ (by rw [fieldsQ]; exact Try.underlying47) heldQ, fieldsQ]
  simp [Op.eqFields, go_sem]

set_option maxRecDepth 100000 in
set_option maxHeartbeats 16000000 in
theorem message_same (m : Ms.M) (vq va vn vd uq ua un ud : Value) (w : World) (ha : Lists m vq va vn vd w) (hb : Lists m uq ua un ud w) (hs : Short m) :
    Calls Try.prog 14 #[msgV m vq va vn vd, msgV m uq ua un ud] w fun e w' => e = .returned (.bool true) ∧ Below w.heap.size w w' := by
  have HNEQ := Lib.hid (fun W n t c => neq_q W n t c)
  have HA := Lib.hid ha
  have HB := Lib.hid hb
  have hsq := hs.qs
  have C1 := Lib.hid (fun W (h1 : ReadR va m.an W) (h2 : ReadR ua m.an W) => rrs_same m.an va ua W h1 h2 hs.an)
  have C2 := Lib.hid (fun W (h1 : ReadR vn m.ns W) (h2 : ReadR un m.ns W) => rrs_same m.ns vn un W h1 h2 hs.ns)
  have C3 := Lib.hid (fun W (h1 : ReadR vd m.ad W) (h2 : ReadR ud m.ad W) => rrs_same m.ad vd ud W h1 h2 hs.ad)
  obtain ⟨aoq1, capq1, rfl, _⟩ := ha.qs.form
  obtain ⟨aoq2, capq2, rfl, _⟩ := hb.qs.form
  clear ha hb hs
  obtain ⟨id, resp, opc, auth, cut, des, avl, code, qs, an, ns, ad, edns, size⟩ := m
  unfold msgV
  simp only at hsq C1 C2 C3 ⊢
  go_enter Try.func14, Try.ntmps14
  go_wp2
  go_loopw [5] (fun i wr => ∃ k : Nat, i = .int .i64 (k : Int) ∧ k ≤ qs.length ∧ Below w.heap.size w wr ∧ Block wr w.heap.size #[.int .i64 id, .bool resp, .int .i64 opc, .bool auth, .bool cut, .bool des, .bool avl, .int .i64 code, .slice aoq1 qs.length capq1, va, vn, vd, .bool edns, .int .i64 size] 27 ∧ Block wr (w.heap.size + 1) #[.int .i64 id, .bool resp, .int .i64 opc, .bool auth, .bool cut, .bool des, .bool avl, .int .i64 code, .slice aoq2 qs.length capq2, ua, un, ud, .bool edns, .int .i64 size] 27) (fun i _ => qs.length + 1 - (intOf i).toNat)
  case atStart => exact ⟨0, rfl, by omega, ((Below.refl _ w).alloc (Nat.le_refl _) _).alloc (by simp) _, (Block.new w _ _).alloc _, by have := Block.new (w.alloc (.cells #[.int .i64 id, .bool resp, .int .i64 opc, .bool auth, .bool cut, .bool des, .bool avl, .int .i64 code, .slice aoq1 qs.length capq1, va, vn, vd, .bool edns, .int .i64 size] 27)) #[.int .i64 id, .bool resp, .int .i64 opc, .bool auth, .bool cut, .bool des, .bool avl, .int .i64 code, .slice aoq2 qs.length capq2, ua, un, ud, .bool edns, .int .i64 size] 27; rw [World.size_alloc] at this; exact this⟩
  case round =>
    obtain ⟨k, rfl, hk, hbl, ka, kb⟩ := hrel
    have dW := (Below.refl wr.heap.size wr).drew
    by_cases hlt : k < qs.length
    · obtain ⟨g1, f1, rfl, x0, x1, x2⟩ := readQ_at (readQ_below HA.out.qs hbl) hlt
      obtain ⟨g2, f2, rfl, y0, y1, y2⟩ := readQ_at (readQ_below HB.out.qs hbl) hlt
      simp only at x0 x1 x2 y0 y1 y2
      obtain ⟨⟨pa, pb, pc⟩, hpq⟩ : ∃ x, qs[k] = x := ⟨_, rfl⟩
      rw [hpq] at x0 x1 x2 y0 y1 y2
      simp only at x0 x1 x2 y0 y1 y2
      clear hpq
      replace x0 := keep_cell dW x0
      replace x1 := keep_cell dW x1
      replace x2 := keep_cell dW x2
      replace y0 := keep_cell dW y0
      replace y1 := keep_cell dW y1
      replace y2 := keep_cell dW y2
      have qa8 := (ka.below dW).cell (i := 8) rfl
      have qb8 := (kb.below dW).cell (i := 8) rfl
      have ca8 := ka.cell (i := 8) rfl
      have cb8 := kb.cell (i := 8) rfl
      clear dW
      go_wp2_with fail
      refine wp_region_slots slotLe (slotPhi ((fun v _ => v = ?sm90) :: (fun v _ => v = ?sm91) :: (fun v _ => v = ?sm92) :: (fun v _ => v = ?sm93) :: (fun v _ => v = ?sm94) :: (fun v _ => v = ?sm95) :: (fun v _ => v = ?sm96) :: (fun v _ => v = ?sm97) :: (fun v _ => v = ?sm98) :: (fun v _ => v = ?sm99) :: (fun v _ => v = ?sm100) :: [])) slotLe_refl slotLe_trans (slotPhi_stable ?stb) (by kernel_rfl) (by kernel_rfl) (by kernel_rfl) ?steps ?fin
      case stb =>
        refine ⟨by intro _ _ _ _ h; exact h, ?_⟩
        refine ⟨by intro _ _ _ _ h; exact h, ?_⟩
        refine ⟨by intro _ _ _ _ h; exact h, ?_⟩
        refine ⟨by intro _ _ _ _ h; exact h, ?_⟩
        refine ⟨by intro _ _ _ _ h; exact h, ?_⟩
        refine ⟨by intro _ _ _ _ h; exact h, ?_⟩
        refine ⟨by intro _ _ _ _ h; exact h, ?_⟩
        refine ⟨by intro _ _ _ _ h; exact h, ?_⟩
        refine ⟨by intro _ _ _ _ h; exact h, ?_⟩
        refine ⟨by intro _ _ _ _ h; exact h, ?_⟩
        refine ⟨by intro _ _ _ _ h; exact h, ?_⟩
        exact trivial
      case steps =>
        refine ⟨?_, ?_⟩
        · intro a W K N hK
          have e2 : a.tmps[2]?.getD undef = .pointer (some ⟨w.heap.size, 0, none⟩) := N.was' 2 _ (by kernel_rfl) rfl
          rw [if_pos (wanted_no rfl)]
          go_simp
          refine hK _ _ (slotLe_refl _) ?_
          exact rfl
        refine ⟨?_, ?_⟩
        · intro a W K N hK
          have e90 : a.tmps[90]?.getD undef = _ := N.dep' 0 90 (by kernel_rfl)
          rw [if_pos (wanted_no rfl)]
          have zz := keep_cell N.le qa8
          go_simp
          refine hK _ _ (slotLe_refl _) ?_
          exact rfl
        refine ⟨?_, ?_⟩
        · intro a W K N hK
          have e5 : a.tmps[5]?.getD undef = .int .i64 (k : Int) := N.was' 5 _ (by kernel_rfl) rfl
          rw [if_pos (wanted_no rfl)]
          go_simp
          refine hK _ _ (slotLe_refl _) ?_
          exact rfl
        refine ⟨?_, ?_⟩
        · intro a W K N hK
          have e91 : a.tmps[91]?.getD undef = _ := N.dep' 1 91 (by kernel_rfl)
          have e92 : a.tmps[92]?.getD undef = _ := N.dep' 2 92 (by kernel_rfl)
          rw [if_pos (wanted_no rfl)]
          go_simp
          refine hK _ _ (slotLe_refl _) ?_
          exact rfl
        refine ⟨?_, ?_⟩
        · intro a W K N hK
          have e93 : a.tmps[93]?.getD undef = _ := N.dep' 3 93 (by kernel_rfl)
          rw [if_pos (wanted_no rfl)]
          have z0 := keep_cell N.le x0
          have z1 := keep_cell N.le x1
          have z2 := keep_cell N.le x2
          go_simp
          refine hK _ _ (slotLe_refl _) ?_
          exact rfl
        refine ⟨?_, ?_⟩
        · intro a W K N hK
          have e3 : a.tmps[3]?.getD undef = .pointer (some ⟨w.heap.size + 1, 0, none⟩) := N.was' 3 _ (by kernel_rfl) rfl
          rw [if_pos (wanted_no rfl)]
          go_simp
          refine hK _ _ (slotLe_refl _) ?_
          exact rfl
        refine ⟨?_, ?_⟩
        · intro a W K N hK
          have e95 : a.tmps[95]?.getD undef = _ := N.dep' 5 95 (by kernel_rfl)
          rw [if_pos (wanted_no rfl)]
          have zz := keep_cell N.le qb8
          go_simp
          refine hK _ _ (slotLe_refl _) ?_
          exact rfl
        refine ⟨?_, ?_⟩
        · intro a W K N hK
          have e5 : a.tmps[5]?.getD undef = .int .i64 (k : Int) := N.was' 5 _ (by kernel_rfl) rfl
          rw [if_pos (wanted_no rfl)]
          go_simp
          refine hK _ _ (slotLe_refl _) ?_
          exact rfl
        refine ⟨?_, ?_⟩
        · intro a W K N hK
          have e96 : a.tmps[96]?.getD undef = _ := N.dep' 6 96 (by kernel_rfl)
          have e97 : a.tmps[97]?.getD undef = _ := N.dep' 7 97 (by kernel_rfl)
          rw [if_pos (wanted_no rfl)]
          go_simp
          refine hK _ _ (slotLe_refl _) ?_
          exact rfl
        refine ⟨?_, ?_⟩
        · intro a W K N hK
          have e98 : a.tmps[98]?.getD undef = _ := N.dep' 8 98 (by kernel_rfl)
          rw [if_pos (wanted_no rfl)]
          have z0 := keep_cell N.le y0
          have z1 := keep_cell N.le y1
          have z2 := keep_cell N.le y2
          go_simp
          refine hK _ _ (slotLe_refl _) ?_
          exact rfl
        refine ⟨?_, ?_⟩
        · intro a W K N hK
          have e94 : a.tmps[94]?.getD undef = _ := N.dep' 4 94 (by kernel_rfl)
          have e99 : a.tmps[99]?.getD undef = _ := N.dep' 9 99 (by kernel_rfl)
          rw [if_pos (wanted_no rfl)]
          have hn := HNEQ.out
          go_simp
          refine hK _ _ (slotLe_refl _) ?_
          exact rfl
        exact trivial
      case fin =>
        intro W1 hW1
        simp only [FinAll, slotPhi, List.getD_cons_zero, List.getD_cons_succ, forall_eq, Act.put, List.setIfInBounds_toArray, List.set_cons_zero, List.set_cons_succ]
        have bU := below_undrew hW1
        have bW1 := below_trans hbl bU
        go_wp2_with fail
        go_roundw
        case rel => exact ⟨k + 1, by go_num, by omega, bW1, ka.below bU, kb.below bU⟩
        case measure => simp [intOf]; omega
    · obtain rfl : k = qs.length := by omega
      clear dW
      have pa8 := ka.cell (i := 8) rfl
      have pb8 := kb.cell (i := 8) rfl
      have pa9 := ka.cell (i := 9) rfl
      have pb9 := kb.cell (i := 9) rfl
      go_wp2_with fail
      refine (C1.out _ (HA.out.below hbl).an (HB.out.below hbl).an).mono ?_
      rintro e w1 ⟨rfl, b1⟩
      clear pa8 pb8 pa9 pb9
      replace ka := ka.below b1
      replace kb := kb.below b1
      replace b1 := below_trans hbl b1
      have pa10 := ka.cell (i := 10) rfl
      have pb10 := kb.cell (i := 10) rfl
      go_wp2_with fail
      refine (C2.out _ (HA.out.below b1).ns (HB.out.below b1).ns).mono ?_
      rintro e w2 ⟨rfl, b2⟩
      clear pa10 pb10
      replace ka := ka.below b2
      replace kb := kb.below b2
      replace b2 := below_trans b1 b2
      have pa11 := ka.cell (i := 11) rfl
      have pb11 := kb.cell (i := 11) rfl
      go_wp2_with fail
      refine (C3.out _ (HA.out.below b2).ad (HB.out.below b2).ad).mono ?_
      rintro e w3 ⟨rfl, b3⟩
      replace b3 := below_trans b2 b3
      go_wp2
      go_ret
      exact ⟨rfl, b3⟩
end Go.Proofs.Ytfmghbmbahembaa
