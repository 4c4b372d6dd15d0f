/- 4 texts put together: RAnsw, GSame, KeyEq, GpAt. -/
import Derived.Deep.RegionHeld3
import Derived.Lib.Strings
import Derived.Test.YtdodamkndigjkaaJB3
import Derived.Test.YtdodamkndigjkaaJB20
import Derived.Test.YtdodamkndigjkaaJB22
import Derived.Test.YtdodamkndigjkaaJB25
/- The document's own Answers. -/
set_option maxRecDepth 100000
namespace Go.Proofs.Ytdodamkndigjkaa
open Go.RowKit Go.Shelf Go.Maps
attribute [local go_sem] Oper.semAt_some
set_option maxHeartbeats 4000000 in
theorem ranswers_any (m o : Ms.M) (vq va vn vd uq ua un ud : Value) (w : World) (hm : ReadQ vq m.qs w) (ho : ReadQ uq o.qs w) (hs : ∀ q ∈ m.qs, q.name.length ≤ 100000) (hos : ∀ q ∈ o.qs, q.name.length ≤ 100000) :
    Calls Try.prog 16 #[msgV m vq va vn vd, msgV o uq ua un ud] w fun e w' => e = .returned (.bool (Mt.answers m o)) ∧ Below w.heap.size w w' := by
  obtain ⟨ao1, cap1, rfl, hc1⟩ := hm.form
  obtain ⟨ao2, cap2, rfl, hc2⟩ := ho.form
  unfold msgV
  have bW := Lib.hid (((Below.refl w.heap.size w).alloc (Nat.le_refl _) (.cells #[.int .i64 m.id, .bool m.resp, .int .i64 m.opc, .bool m.auth, .bool m.cut, .bool m.des, .bool m.avl, .int .i64 m.code, .slice ao1 m.qs.length cap1, va, vn, vd, .bool m.edns, .int .i64 m.size] 27)).alloc (by simp) (.cells #[.int .i64 o.id, .bool o.resp, .int .i64 o.opc, .bool o.auth, .bool o.cut, .bool o.des, .bool o.avl, .int .i64 o.code, .slice ao2 o.qs.length cap2, ua, un, ud, .bool o.edns, .int .i64 o.size] 27))
  have ka := blk_first w #[.int .i64 m.id, .bool m.resp, .int .i64 m.opc, .bool m.auth, .bool m.cut, .bool m.des, .bool m.avl, .int .i64 m.code, .slice ao1 m.qs.length cap1, va, vn, vd, .bool m.edns, .int .i64 m.size] 27 (.cells #[.int .i64 o.id, .bool o.resp, .int .i64 o.opc, .bool o.auth, .bool o.cut, .bool o.des, .bool o.avl, .int .i64 o.code, .slice ao2 o.qs.length cap2, ua, un, ud, .bool o.edns, .int .i64 o.size] 27)
  have kb := blk_at1 w (.cells #[.int .i64 m.id, .bool m.resp, .int .i64 m.opc, .bool m.auth, .bool m.cut, .bool m.des, .bool m.avl, .int .i64 m.code, .slice ao1 m.qs.length cap1, va, vn, vd, .bool m.edns, .int .i64 m.size] 27) #[.int .i64 o.id, .bool o.resp, .int .i64 o.opc, .bool o.auth, .bool o.cut, .bool o.des, .bool o.avl, .int .i64 o.code, .slice ao2 o.qs.length cap2, ua, un, ud, .bool o.edns, .int .i64 o.size] 27
  have a0 := ka.cell (i := 0) rfl
  have a8 := ka.cell (i := 8) rfl
  have b0 := kb.cell (i := 0) rfl
  have b1 := kb.cell (i := 1) rfl
  have b2 := kb.cell (i := 2) rfl
  have b8 := kb.cell (i := 8) rfl
  clear ka kb
  cases hr : o.resp with
  | false =>
    have H : Hid (Mt.answers m o = false) := Lib.hid (by unfold Mt.answers; rw [hr]; rfl)
    rw [H.out]
    simp only [hr] at b0 b1 b2 b8 a0 a8 ⊢
    clear hm ho hc1 hc2
    go_enter Try.func16, Try.ntmps16
    go_wp2_with fail
    go_ret
    exact ⟨rfl, by simpa only [hr] using bW.out⟩
  | true =>
    simp only [hr] at b0 b1 b2 b8 a0 a8 bW ⊢
    by_cases h1 : o.id = m.id
    · have e1 : (o.id != m.id) = false := by simpa using h1
      by_cases h2 : o.opc = 0
      · have e2 : (o.opc != 0) = false := by simpa using h2
        by_cases h4 : m.qs.length = 1
        · have e4 : ((m.qs.length : Int) != 1) = false := by rw [bne_eq_false_iff_eq]; omega
          by_cases h3 : o.qs.length = 1
          · have e3 : ((o.qs.length : Int) != 1) = false := by rw [bne_eq_false_iff_eq]; omega
            obtain ⟨p, hp⟩ := List.length_eq_one_iff.1 h4
            obtain ⟨q, hq⟩ := List.length_eq_one_iff.1 h3
            have H : Hid (Mt.answers m o = Mt.sameQ p q) := Lib.hid (by unfold Mt.answers; rw [hr, decide_eq_true h1, decide_eq_true h2, hp, hq]; rfl)
            rw [H.out]
            have hpn := hs p (by rw [hp]; simp)
            have hqn := hos q (by rw [hq]; simp)
            obtain ⟨g1, f1, rfl, p0, p1, p2⟩ := readQ_at hm (j := 0) (by omega)
            obtain ⟨g2, f2, rfl, q0, q1, q2⟩ := readQ_at ho (j := 0) (by omega)
            have ep : m.qs[0] = p := by simp [hp]
            have eq : o.qs[0] = q := by simp [hq]
            rw [ep] at p0 p1 p2
            rw [eq] at q0 q1 q2
            simp only [Nat.zero_mul, Nat.add_zero] at p0 p1 p2 q0 q1 q2
            have hg1 : g1 < w.heap.size := cell_lt p0
            have hg2 : g2 < w.heap.size := cell_lt q0
            have hg1' : g1 < w.heap.size + 1 := by omega
            have hg2' : g2 < w.heap.size + 1 := by omega
            replace p0 := keep_cell bW.out p0
            replace p1 := keep_cell bW.out p1
            replace p2 := keep_cell bW.out p2
            replace q0 := keep_cell bW.out q0
            replace q1 := keep_cell bW.out q1
            replace q2 := keep_cell bW.out q2
            have l1 : (0 : Int) < (m.qs.length : Int) := by omega
            have l2 : (0 : Int) < (o.qs.length : Int) := by omega
            have HSM := Lib.hid (fun W => rnsame_any p.name q.name W hpn hqn)
            clear hp hq hpn hqn hs hos H h1 h2 h3 h4 ep eq hm ho hc1 hc2
            go_enter Try.func16, Try.ntmps16
            go_wp2_with fail
            have hs2 : ((w.alloc (.cells #[.int .i64 m.id, .bool m.resp, .int .i64 m.opc, .bool m.auth, .bool m.cut, .bool m.des, .bool m.avl, .int .i64 m.code, .slice (some ⟨g1, f1, none⟩) m.qs.length cap1, va, vn, vd, .bool m.edns, .int .i64 m.size] 27)).alloc (.cells #[.int .i64 o.id, .bool true, .int .i64 o.opc, .bool o.auth, .bool o.cut, .bool o.des, .bool o.avl, .int .i64 o.code, .slice (some ⟨g2, f2, none⟩) o.qs.length cap2, ua, un, ud, .bool o.edns, .int .i64 o.size] 27)).heap.size = w.heap.size + 2 := by simp
            obtain ⟨W2, hW2⟩ : ∃ W, ((w.alloc (.cells #[.int .i64 m.id, .bool m.resp, .int .i64 m.opc, .bool m.auth, .bool m.cut, .bool m.des, .bool m.avl, .int .i64 m.code, .slice (some ⟨g1, f1, none⟩) m.qs.length cap1, va, vn, vd, .bool m.edns, .int .i64 m.size] 27)).alloc (.cells #[.int .i64 o.id, .bool true, .int .i64 o.opc, .bool o.auth, .bool o.cut, .bool o.des, .bool o.avl, .int .i64 o.code, .slice (some ⟨g2, f2, none⟩) o.qs.length cap2, ua, un, ud, .bool o.edns, .int .i64 o.size] 27)) = W := ⟨_, rfl⟩
            rw [hW2] at a0 a8 b0 b1 b2 b8 p0 p1 p2 q0 q1 q2 bW hs2 ⊢
            clear hW2 hg1' hg2'
            obtain ⟨B1, hB1⟩ : ∃ B, w.heap.size = B := ⟨_, rfl⟩
            rw [hB1] at a0 a8 b0 b1 b2 b8 hs2 hg1 hg2 ⊢
            obtain ⟨B2, hB2⟩ : ∃ B, B1 + 1 = B := ⟨_, rfl⟩
            rw [hB2] at b0 b1 b2 b8 ⊢
            have r0 : B1 < W2.heap.size := by omega
            have r1 : B2 < W2.heap.size := by omega
            have r2 : g1 < W2.heap.size := by omega
            have r3 : g2 < W2.heap.size := by omega
            clear hs2 hB2
            go_region
            · have KP : Block ((W2.alloc (.cells #[.string ⟨p.name.toArray⟩, .int .i64 p.typ, .int .i64 p.cls] 36)).alloc (.cells #[.string ⟨q.name.toArray⟩, .int .i64 q.typ, .int .i64 q.cls] 36)).drew (W2.heap.size) #[.string ⟨p.name.toArray⟩, .int .i64 p.typ, .int .i64 p.cls] 36 := (blk_first W2 _ _ _)
              have KQ : Block ((W2.alloc (.cells #[.string ⟨p.name.toArray⟩, .int .i64 p.typ, .int .i64 p.cls] 36)).alloc (.cells #[.string ⟨q.name.toArray⟩, .int .i64 q.typ, .int .i64 q.cls] 36)).drew (W2.heap.size + 1) #[.string ⟨q.name.toArray⟩, .int .i64 q.typ, .int .i64 q.cls] 36 := (blk_at1 W2 _ _ _)
              have b3 : Below w.heap.size w ((W2.alloc (.cells #[.string ⟨p.name.toArray⟩, .int .i64 p.typ, .int .i64 p.cls] 36)).alloc (.cells #[.string ⟨q.name.toArray⟩, .int .i64 q.typ, .int .i64 q.cls] 36)).drew := bW.out.trans (((((Below.refl _ W2).alloc (Nat.le_refl _) _).alloc (by simp) _).drew).mono bW.out.size)
              obtain ⟨C1, hC1⟩ : ∃ C, W2.heap.size = C := ⟨_, rfl⟩
              rw [hC1] at KP KQ ⊢
              obtain ⟨C2, hC2⟩ : ∃ C, C1 + 1 = C := ⟨_, rfl⟩
              rw [hC2] at KQ ⊢
              obtain ⟨W3, hW3⟩ : ∃ W, ((W2.alloc (.cells #[.string ⟨p.name.toArray⟩, .int .i64 p.typ, .int .i64 p.cls] 36)).alloc (.cells #[.string ⟨q.name.toArray⟩, .int .i64 q.typ, .int .i64 q.cls] 36)).drew = W := ⟨_, rfl⟩
              rw [hW3] at KP KQ b3 ⊢
              clear hW3 hC1 hC2 r0 r1 r2 r3 p0 p1 p2 q0 q1 q2 a0 a8 b0 b1 b2 b8
              have x0 := KP.cell (i := 0) rfl
              have x1 := KP.cell (i := 1) rfl
              have x2 := KP.cell (i := 2) rfl
              have z0 := KQ.cell (i := 0) rfl
              have z1 := KQ.cell (i := 1) rfl
              have z2 := KQ.cell (i := 2) rfl
              have hHS := HSM.out W3
              have hS : Mt.sameQ p q = ((p.typ == q.typ) && ((p.cls == q.cls) && Nm.same p.name q.name)) := rfl
              obtain ⟨s, hs⟩ : ∃ s, Nm.same p.name q.name = s := ⟨_, rfl⟩
              rw [hs] at hHS hS
              obtain ⟨y, hy⟩ : ∃ y, (p.typ == q.typ) = y := ⟨_, rfl⟩
              obtain ⟨z, hz⟩ : ∃ z, (p.cls == q.cls) = z := ⟨_, rfl⟩
              rw [hy, hz] at hS
              have HSQ := Lib.hid hS
              have HHS := Lib.hid hHS
              clear hHS hs hS
              cases s
              · go_wp2_with (go_at_call 40; refine HHS.out.mono ?_; rintro e w4 ⟨rfl, b4⟩; have u1 := keep_cell b4 x1; have u2 := keep_cell b4 x2; have v1 := keep_cell b4 z1; have v2 := keep_cell b4 z2)
                go_ret
                exact ⟨ret_bool (by rw [HSQ.out]; simp), b3.trans (b4.mono b3.size)⟩
              · cases y
                · go_wp2_with (go_at_call 40; refine HHS.out.mono ?_; rintro e w4 ⟨rfl, b4⟩; have u1 := keep_cell b4 x1; have u2 := keep_cell b4 x2; have v1 := keep_cell b4 z1; have v2 := keep_cell b4 z2)
                  go_ret
                  exact ⟨ret_bool (by rw [HSQ.out]; simp), b3.trans (b4.mono b3.size)⟩
                · go_wp2_with (go_at_call 40; refine HHS.out.mono ?_; rintro e w4 ⟨rfl, b4⟩; have u1 := keep_cell b4 x1; have u2 := keep_cell b4 x2; have v1 := keep_cell b4 z1; have v2 := keep_cell b4 z2)
                  go_ret
                  exact ⟨ret_bool (by rw [HSQ.out]; simp), b3.trans (b4.mono b3.size)⟩
            · have KP : Block ((W2.alloc (.cells #[.string ⟨q.name.toArray⟩, .int .i64 q.typ, .int .i64 q.cls] 36)).alloc (.cells #[.string ⟨p.name.toArray⟩, .int .i64 p.typ, .int .i64 p.cls] 36)).drew (W2.heap.size + 1) #[.string ⟨p.name.toArray⟩, .int .i64 p.typ, .int .i64 p.cls] 36 := (blk_at1 W2 _ _ _)
              have KQ : Block ((W2.alloc (.cells #[.string ⟨q.name.toArray⟩, .int .i64 q.typ, .int .i64 q.cls] 36)).alloc (.cells #[.string ⟨p.name.toArray⟩, .int .i64 p.typ, .int .i64 p.cls] 36)).drew (W2.heap.size) #[.string ⟨q.name.toArray⟩, .int .i64 q.typ, .int .i64 q.cls] 36 := (blk_first W2 _ _ _)
              have b3 : Below w.heap.size w ((W2.alloc (.cells #[.string ⟨q.name.toArray⟩, .int .i64 q.typ, .int .i64 q.cls] 36)).alloc (.cells #[.string ⟨p.name.toArray⟩, .int .i64 p.typ, .int .i64 p.cls] 36)).drew := bW.out.trans (((((Below.refl _ W2).alloc (Nat.le_refl _) _).alloc (by simp) _).drew).mono bW.out.size)
              obtain ⟨C1, hC1⟩ : ∃ C, W2.heap.size = C := ⟨_, rfl⟩
              rw [hC1] at KP KQ ⊢
              obtain ⟨C2, hC2⟩ : ∃ C, C1 + 1 = C := ⟨_, rfl⟩
              rw [hC2] at KP ⊢
              obtain ⟨W3, hW3⟩ : ∃ W, ((W2.alloc (.cells #[.string ⟨q.name.toArray⟩, .int .i64 q.typ, .int .i64 q.cls] 36)).alloc (.cells #[.string ⟨p.name.toArray⟩, .int .i64 p.typ, .int .i64 p.cls] 36)).drew = W := ⟨_, rfl⟩
              rw [hW3] at KP KQ b3 ⊢
              clear hW3 hC1 hC2 r0 r1 r2 r3 p0 p1 p2 q0 q1 q2 a0 a8 b0 b1 b2 b8
              have x0 := KP.cell (i := 0) rfl
              have x1 := KP.cell (i := 1) rfl
              have x2 := KP.cell (i := 2) rfl
              have z0 := KQ.cell (i := 0) rfl
              have z1 := KQ.cell (i := 1) rfl
              have z2 := KQ.cell (i := 2) rfl
              have hHS := HSM.out W3
              have hS : Mt.sameQ p q = ((p.typ == q.typ) && ((p.cls == q.cls) && Nm.same p.name q.name)) := rfl
              obtain ⟨s, hs⟩ : ∃ s, Nm.same p.name q.name = s := ⟨_, rfl⟩
              rw [hs] at hHS hS
              obtain ⟨y, hy⟩ : ∃ y, (p.typ == q.typ) = y := ⟨_, rfl⟩
              obtain ⟨z, hz⟩ : ∃ z, (p.cls == q.cls) = z := ⟨_, rfl⟩
              rw [hy, hz] at hS
              have HSQ := Lib.hid hS
              have HHS := Lib.hid hHS
              clear hHS hs hS
              cases s
              · go_wp2_with (go_at_call 40; refine HHS.out.mono ?_; rintro e w4 ⟨rfl, b4⟩; have u1 := keep_cell b4 x1; have u2 := keep_cell b4 x2; have v1 := keep_cell b4 z1; have v2 := keep_cell b4 z2)
                go_ret
                exact ⟨ret_bool (by rw [HSQ.out]; simp), b3.trans (b4.mono b3.size)⟩
              · cases y
                · go_wp2_with (go_at_call 40; refine HHS.out.mono ?_; rintro e w4 ⟨rfl, b4⟩; have u1 := keep_cell b4 x1; have u2 := keep_cell b4 x2; have v1 := keep_cell b4 z1; have v2 := keep_cell b4 z2)
                  go_ret
                  exact ⟨ret_bool (by rw [HSQ.out]; simp), b3.trans (b4.mono b3.size)⟩
                · go_wp2_with (go_at_call 40; refine HHS.out.mono ?_; rintro e w4 ⟨rfl, b4⟩; have u1 := keep_cell b4 x1; have u2 := keep_cell b4 x2; have v1 := keep_cell b4 z1; have v2 := keep_cell b4 z2)
                  go_ret
                  exact ⟨ret_bool (by rw [HSQ.out]; simp), b3.trans (b4.mono b3.size)⟩
          · have e3 : ((o.qs.length : Int) != 1) = true := by rw [bne_iff_ne]; omega
            have H : Hid (Mt.answers m o = false) := Lib.hid (by unfold Mt.answers; rw [Mt.one_len (fun h => h3 h.2)]; simp)
            rw [H.out]
            clear h1 h2 h3 H hm ho hc1 hc2
            rw [h4] at a8 bW ⊢
            go_enter Try.func16, Try.ntmps16
            go_wp2_with fail
            go_ret
            exact ⟨rfl, bW.out⟩
        · have e4 : ((m.qs.length : Int) != 1) = true := by rw [bne_iff_ne]; omega
          have H : Hid (Mt.answers m o = false) := Lib.hid (by unfold Mt.answers; rw [Mt.one_len (fun h => h4 h.1)]; simp)
          rw [H.out]
          clear h1 h2 h4 H hm ho hc1 hc2
          go_enter Try.func16, Try.ntmps16
          go_wp2_with fail
          go_ret
          exact ⟨rfl, bW.out⟩
      · have e2 : (o.opc != 0) = true := by simpa using h2
        have H : Hid (Mt.answers m o = false) := Lib.hid (by unfold Mt.answers; rw [decide_eq_false h2]; simp)
        rw [H.out]
        clear h1 h2 H hm ho hc1 hc2
        go_enter Try.func16, Try.ntmps16
        go_wp2_with fail
        go_ret
        exact ⟨rfl, bW.out⟩
    · have e1 : (o.id != m.id) = true := by simpa using h1
      have H : Hid (Mt.answers m o = false) := Lib.hid (by unfold Mt.answers; rw [decide_eq_false h1]; simp)
      rw [H.out]
      clear h1 H hm ho hc1 hc2
      go_enter Try.func16, Try.ntmps16
      go_wp2_with fail
      go_ret
      exact ⟨rfl, bW.out⟩
end Go.Proofs.Ytdodamkndigjkaa

/- same: two lists of groups that have the same in them. -/
set_option maxRecDepth 100000
namespace Go.Proofs.Ytdodamkndigjkaa
open Go.RowKit Go.Shelf Go.Maps
attribute [local go_sem] Oper.semAt_some

theorem fieldsK : Try.prog.fieldsOf 53 = #[{ name := "Name", type := 9, offset := 0, embedded := false, tag := "", pkgPath := "", byteOffset := 0 }, { name := "Type", type := 3, offset := 1, embedded := false, tag := "", pkgPath := "", byteOffset := 16 }] := by
  unfold Program.fieldsOf
  rw [Try.underlying53]
theorem heldK : Try.prog.stoodInHeld 53 = false := by kernel_rfl
theorem neq_k (W : World) (n : List UInt8) (t : Int) : (binOp .neq 53 (.agg #[.string ⟨n.toArray⟩, .int .i64 t]) (.agg #[.string ⟨n.toArray⟩, .int .i64 t])).run Try.prog W = .ok (.bool false) W := by
  rw [run_neq_struct, run_equalIn_struct W 9999 53 _ _ (by rw [fieldsK]; exact Try.underlying53) heldK, fieldsK]
  simp [Op.eqFields, go_sem]
theorem gread_at {ao : Option Addr} {len cap : Nat} {L : List Ge} {W : World} (h : GRead (.slice ao len cap) L W) {j : Nat} (hj : j < L.length) :
    ∃ g off, ao = some ⟨g, off, none⟩ ∧ W.cell? ⟨g, off + j * 3, none⟩ = some (.string ⟨L[j].name.toArray⟩) ∧ W.cell? ⟨g, off + j * 3 + 1, none⟩ = some (.int .i64 L[j].typ) ∧ W.cell? ⟨g, off + j * 3 + 2, none⟩ = some L[j].v := by
  obtain ⟨ao', cap', e, hc⟩ := h.form
  cases e
  exact hc j hj

set_option maxHeartbeats 8000000 in
theorem gsame_any (L1 L2 : List Ge) (va vb : Value) (w : World) (ha : GRead va L1 w) (hb' : GRead vb L2 w) (he : L1.map Ge.gr = L2.map Ge.gr) (hl : L1.length ≤ 100000) (hr : ∀ g ∈ L1, g.rrs.length ≤ 100000) :
    Calls Try.prog 21 #[va, vb] w fun e w' => e = .returned (.bool true) ∧ Below w.heap.size w w' := by
  have HA := Lib.hid ha
  have HB := Lib.hid hb'
  have hll : L1.length = L2.length := by have := congrArg List.length he; simpa using this
  obtain ⟨ao1, cp1, rfl, _⟩ := ha.form
  obtain ⟨ao2, cp2, rfl, _⟩ := hb'.form
  have hli : ((L1.length : Int) != (L2.length : Int)) = false := by rw [bne_eq_false_iff_eq]; omega
  have HE := Lib.hid he
  have HR := Lib.hid hr
  have HNEQ := Lib.hid neq_k
  clear ha hb' he hr
  go_enter Try.func21, Try.ntmps21
  go_wp2_with fail
  go_loopw [5] (fun i wr => ∃ k : Nat, i = .int .i64 (k : Int) ∧ k ≤ L1.length ∧ Below w.heap.size w wr) (fun i _ => L1.length + 1 - (intOf i).toNat)
  case atStart => exact ⟨0, rfl, by omega, Below.refl _ w⟩
  case round =>
    obtain ⟨k, rfl, hk, hbl⟩ := hrel
    by_cases hlt : k < L1.length
    · have hlt2 : k < L2.length := by omega
      obtain ⟨g1, f1, rfl, x0, x1, x2⟩ := gread_at (HA.out.below hbl) hlt
      obtain ⟨g2, f2, rfl, y0, y1, y2⟩ := gread_at (HB.out.below hbl) hlt2
      have hr1 := (HA.out.below hbl).each k hlt
      have hr2 := (HB.out.below hbl).each k hlt2
      have hg : L1[k].gr = L2[k].gr := by
        have := congrArg (fun l => l[k]?) HE.out
        simpa [hlt, hlt2] using this
      have hrl := HR.out L1[k] (List.getElem_mem hlt)
      obtain ⟨⟨n1, t1, r1, a1, c1⟩, e1⟩ : ∃ x, L1[k] = x := ⟨_, rfl⟩
      obtain ⟨⟨n2, t2, r2, a2, c2⟩, e2⟩ : ∃ x, L2[k] = x := ⟨_, rfl⟩
      rw [e1] at x0 x1 x2 hr1 hg hrl
      rw [e2] at y0 y1 y2 hr2 hg
      unfold Ge.gr at hg
      injection hg with h1 h2 h3
      simp only at h1 h2 h3
      subst h1 h2 h3
      simp only [Ge.v] at x0 x1 x2 y0 y1 y2 hr1 hr2 hrl
      obtain ⟨p1, hp1⟩ : ∃ p : Option Addr, a1.map (fun b => (⟨b, 0, none⟩ : Addr)) = p := ⟨_, rfl⟩
      obtain ⟨p2, hp2⟩ : ∃ p : Option Addr, a2.map (fun b => (⟨b, 0, none⟩ : Addr)) = p := ⟨_, rfl⟩
      rw [hp1] at x2 hr1
      rw [hp2] at y2 hr2
      have HRS := Lib.hid (fun W (hb : Below wr.heap.size wr W) => rrs_same r1 _ _ W (readR_below hr1 hb) (readR_below hr2 hb) (by omega))
      clear e1 e2 hp1 hp2 hr1 hr2
      have hmp : Try.prog.follows .mixedOrders = true := by kernel_rfl
      go_wp2_with fail
      refine wp_region_slots slotLe (slotPhi ((fun v _ => v = ?sg17) :: (fun v _ => v = ?sg18) :: (fun v _ => v = ?sg19) :: (fun v _ => v = ?sg20) :: (fun v _ => v = ?sg21) :: (fun v _ => v = ?sg22) :: (fun v _ => v = ?sg23) :: (fun v _ => v = ?sg24) :: (fun v _ => v = ?sg25) :: (fun v _ => v = ?sg26) :: (fun v _ => v = ?sg27) :: (fun v _ => v = ?sg28) :: (fun v _ => v = ?sg29) :: (fun v _ => v = ?sg30) :: (fun v _ => v = ?sg31) :: (fun v _ => v = ?sg32) :: (fun v _ => v = ?sg33) :: (fun v _ => v = ?sg34) :: (fun v _ => v = ?sg35) :: (fun v _ => v = ?sg36) :: (fun v _ => v = ?sg37) :: (fun v _ => v = ?sg38) :: (fun v _ => v = ?sg39) :: (fun v _ => v = ?sg40) :: (fun v _ => v = ?sg41) :: [])) slotLe_refl slotLe_trans (slotPhi_stable ?stb) (by kernel_rfl) (by kernel_rfl) (by kernel_rfl) ?steps ?fin
      case stb =>
        refine ⟨by intro _ _ _ _ h; exact h, ?_⟩
        refine ⟨by intro _ _ _ _ h; exact h, ?_⟩
        refine ⟨by intro _ _ _ _ h; exact h, ?_⟩
        refine ⟨by intro _ _ _ _ h; exact h, ?_⟩
        refine ⟨by intro _ _ _ _ h; exact h, ?_⟩
        refine ⟨by intro _ _ _ _ h; exact h, ?_⟩
        refine ⟨by intro _ _ _ _ h; exact h, ?_⟩
        refine ⟨by intro _ _ _ _ h; exact h, ?_⟩
        refine ⟨by intro _ _ _ _ h; exact h, ?_⟩
        refine ⟨by intro _ _ _ _ h; exact h, ?_⟩
        refine ⟨by intro _ _ _ _ h; exact h, ?_⟩
        refine ⟨by intro _ _ _ _ h; exact h, ?_⟩
        refine ⟨by intro _ _ _ _ h; exact h, ?_⟩
        refine ⟨by intro _ _ _ _ h; exact h, ?_⟩
        refine ⟨by intro _ _ _ _ h; exact h, ?_⟩
        refine ⟨by intro _ _ _ _ h; exact h, ?_⟩
        refine ⟨by intro _ _ _ _ h; exact h, ?_⟩
        refine ⟨by intro _ _ _ _ h; exact h, ?_⟩
        refine ⟨by intro _ _ _ _ h; exact h, ?_⟩
        refine ⟨by intro _ _ _ _ h; exact h, ?_⟩
        refine ⟨by intro _ _ _ _ h; exact h, ?_⟩
        refine ⟨by intro _ _ _ _ h; exact h, ?_⟩
        refine ⟨by intro _ _ _ _ h; exact h, ?_⟩
        refine ⟨by intro _ _ _ _ h; exact h, ?_⟩
        refine ⟨by intro _ _ _ _ h; exact h, ?_⟩
        exact trivial
      case steps =>
        refine ⟨?_, ?_⟩
        · intro a W K N hK
          have e0 : a.tmps[0]?.getD undef = .slice (some ⟨g1, f1, none⟩) L1.length cp1 := N.was' 0 _ (by kernel_rfl) rfl
          rw [if_pos (wanted_no rfl)]
          go_simp
          refine hK _ _ (slotLe_refl _) ?_
          exact rfl
        refine ⟨?_, ?_⟩
        · intro a W K N hK
          have e5 : a.tmps[5]?.getD undef = .int .i64 (k : Int) := N.was' 5 _ (by kernel_rfl) rfl
          rw [if_pos (wanted_no rfl)]
          go_simp
          refine hK _ _ (slotLe_refl _) ?_
          exact rfl
        refine ⟨?_, ?_⟩
        · intro a W K N hK
          have e17 : a.tmps[17]?.getD undef = _ := N.dep' 0 17 (by kernel_rfl)
          have e18 : a.tmps[18]?.getD undef = _ := N.dep' 1 18 (by kernel_rfl)
          rw [if_pos (wanted_no rfl)]
          go_simp
          refine hK _ _ (slotLe_refl _) ?_
          exact rfl
        refine ⟨?_, ?_⟩
        · intro a W K N hK
          have e19 : a.tmps[19]?.getD undef = _ := N.dep' 2 19 (by kernel_rfl)
          rw [if_pos (wanted_no rfl)]
          go_simp
          refine hK _ _ (slotLe_refl _) ?_
          exact rfl
        refine ⟨?_, ?_⟩
        · intro a W K N hK
          have e20 : a.tmps[20]?.getD undef = _ := N.dep' 3 20 (by kernel_rfl)
          rw [if_pos (wanted_no rfl)]
          have z0 := keep_cell N.le x0
          have z1 := keep_cell N.le x1
          go_simp
          refine hK _ _ (slotLe_refl _) ?_
          exact rfl
        refine ⟨?_, ?_⟩
        · intro a W K N hK
          have e1 : a.tmps[1]?.getD undef = .slice (some ⟨g2, f2, none⟩) L2.length cp2 := N.was' 1 _ (by kernel_rfl) rfl
          rw [if_pos (wanted_no rfl)]
          go_simp
          refine hK _ _ (slotLe_refl _) ?_
          exact rfl
        refine ⟨?_, ?_⟩
        · intro a W K N hK
          have e5 : a.tmps[5]?.getD undef = .int .i64 (k : Int) := N.was' 5 _ (by kernel_rfl) rfl
          rw [if_pos (wanted_no rfl)]
          go_simp
          refine hK _ _ (slotLe_refl _) ?_
          exact rfl
        refine ⟨?_, ?_⟩
        · intro a W K N hK
          have e22 : a.tmps[22]?.getD undef = _ := N.dep' 5 22 (by kernel_rfl)
          have e23 : a.tmps[23]?.getD undef = _ := N.dep' 6 23 (by kernel_rfl)
          rw [if_pos (wanted_no rfl)]
          go_simp
          refine hK _ _ (slotLe_refl _) ?_
          exact rfl
        refine ⟨?_, ?_⟩
        · intro a W K N hK
          have e24 : a.tmps[24]?.getD undef = _ := N.dep' 7 24 (by kernel_rfl)
          rw [if_pos (wanted_no rfl)]
          go_simp
          refine hK _ _ (slotLe_refl _) ?_
          exact rfl
        refine ⟨?_, ?_⟩
        · intro a W K N hK
          have e25 : a.tmps[25]?.getD undef = _ := N.dep' 8 25 (by kernel_rfl)
          rw [if_pos (wanted_no rfl)]
          have z0 := keep_cell N.le y0
          have z1 := keep_cell N.le y1
          go_simp
          refine hK _ _ (slotLe_refl _) ?_
          exact rfl
        refine ⟨?_, ?_⟩
        · intro a W K N hK
          have e21 : a.tmps[21]?.getD undef = _ := N.dep' 4 21 (by kernel_rfl)
          have e26 : a.tmps[26]?.getD undef = _ := N.dep' 9 26 (by kernel_rfl)
          rw [if_pos (wanted_no rfl)]
          have hn := HNEQ.out
          go_simp
          refine hK _ _ (slotLe_refl _) ?_
          exact rfl
        refine ⟨?_, ?_⟩
        · intro a W K N hK
          have e27 : a.tmps[27]?.getD undef = _ := N.dep' 10 27 (by kernel_rfl)
          rw [if_pos (wanted_no rfl)]
          go_simp
          refine hK _ _ (slotLe_refl _) ?_
          exact rfl
        refine ⟨?_, ?_⟩
        · intro a W K N hK
          have e0 : a.tmps[0]?.getD undef = .slice (some ⟨g1, f1, none⟩) L1.length cp1 := N.was' 0 _ (by kernel_rfl) rfl
          have eg : a.tmps[28]?.getD undef = .bool false := N.dep' 11 28 (by kernel_rfl)
          rw [if_pos (by rw [wanted_get (g := 11) (d := 28) rfl rfl eg]; decide)]
          clear eg
          go_simp
          refine hK _ _ (slotLe_refl _) ?_
          exact rfl
        refine ⟨?_, ?_⟩
        · intro a W K N hK
          have e5 : a.tmps[5]?.getD undef = .int .i64 (k : Int) := N.was' 5 _ (by kernel_rfl) rfl
          have eg : a.tmps[28]?.getD undef = .bool false := N.dep' 11 28 (by kernel_rfl)
          rw [if_pos (by rw [wanted_get (g := 11) (d := 28) rfl rfl eg]; decide)]
          clear eg
          go_simp
          refine hK _ _ (slotLe_refl _) ?_
          exact rfl
        refine ⟨?_, ?_⟩
        · intro a W K N hK
          have e29 : a.tmps[29]?.getD undef = _ := N.dep' 12 29 (by kernel_rfl)
          have e30 : a.tmps[30]?.getD undef = _ := N.dep' 13 30 (by kernel_rfl)
          have eg : a.tmps[28]?.getD undef = .bool false := N.dep' 11 28 (by kernel_rfl)
          rw [if_pos (by rw [wanted_get (g := 11) (d := 28) rfl rfl eg]; decide)]
          clear eg
          go_simp
          refine hK _ _ (slotLe_refl _) ?_
          exact rfl
        refine ⟨?_, ?_⟩
        · intro a W K N hK
          have e31 : a.tmps[31]?.getD undef = _ := N.dep' 14 31 (by kernel_rfl)
          have eg : a.tmps[28]?.getD undef = .bool false := N.dep' 11 28 (by kernel_rfl)
          rw [if_pos (by rw [wanted_get (g := 11) (d := 28) rfl rfl eg]; decide)]
          clear eg
          go_simp
          refine hK _ _ (slotLe_refl _) ?_
          exact rfl
        refine ⟨?_, ?_⟩
        · intro a W K N hK
          have e32 : a.tmps[32]?.getD undef = _ := N.dep' 15 32 (by kernel_rfl)
          have eg : a.tmps[28]?.getD undef = .bool false := N.dep' 11 28 (by kernel_rfl)
          rw [if_pos (by rw [wanted_get (g := 11) (d := 28) rfl rfl eg]; decide)]
          clear eg
          have z0 := keep_cell N.le x2
          go_simp
          refine hK _ _ (slotLe_refl _) ?_
          exact rfl
        refine ⟨?_, ?_⟩
        · intro a W K N hK
          have e1 : a.tmps[1]?.getD undef = .slice (some ⟨g2, f2, none⟩) L2.length cp2 := N.was' 1 _ (by kernel_rfl) rfl
          have eg : a.tmps[28]?.getD undef = .bool false := N.dep' 11 28 (by kernel_rfl)
          rw [if_pos (by rw [wanted_get (g := 11) (d := 28) rfl rfl eg]; decide)]
          clear eg
          go_simp
          refine hK _ _ (slotLe_refl _) ?_
          exact rfl
        refine ⟨?_, ?_⟩
        · intro a W K N hK
          have e5 : a.tmps[5]?.getD undef = .int .i64 (k : Int) := N.was' 5 _ (by kernel_rfl) rfl
          have eg : a.tmps[28]?.getD undef = .bool false := N.dep' 11 28 (by kernel_rfl)
          rw [if_pos (by rw [wanted_get (g := 11) (d := 28) rfl rfl eg]; decide)]
          clear eg
          go_simp
          refine hK _ _ (slotLe_refl _) ?_
          exact rfl
        refine ⟨?_, ?_⟩
        · intro a W K N hK
          have e34 : a.tmps[34]?.getD undef = _ := N.dep' 17 34 (by kernel_rfl)
          have e35 : a.tmps[35]?.getD undef = _ := N.dep' 18 35 (by kernel_rfl)
          have eg : a.tmps[28]?.getD undef = .bool false := N.dep' 11 28 (by kernel_rfl)
          rw [if_pos (by rw [wanted_get (g := 11) (d := 28) rfl rfl eg]; decide)]
          clear eg
          go_simp
          refine hK _ _ (slotLe_refl _) ?_
          exact rfl
        refine ⟨?_, ?_⟩
        · intro a W K N hK
          have e36 : a.tmps[36]?.getD undef = _ := N.dep' 19 36 (by kernel_rfl)
          have eg : a.tmps[28]?.getD undef = .bool false := N.dep' 11 28 (by kernel_rfl)
          rw [if_pos (by rw [wanted_get (g := 11) (d := 28) rfl rfl eg]; decide)]
          clear eg
          go_simp
          refine hK _ _ (slotLe_refl _) ?_
          exact rfl
        refine ⟨?_, ?_⟩
        · intro a W K N hK
          have e37 : a.tmps[37]?.getD undef = _ := N.dep' 20 37 (by kernel_rfl)
          have eg : a.tmps[28]?.getD undef = .bool false := N.dep' 11 28 (by kernel_rfl)
          rw [if_pos (by rw [wanted_get (g := 11) (d := 28) rfl rfl eg]; decide)]
          clear eg
          have z0 := keep_cell N.le y2
          go_simp
          refine hK _ _ (slotLe_refl _) ?_
          exact rfl
        refine ⟨?_, ?_⟩
        · intro a W K N hK
          have e33 : a.tmps[33]?.getD undef = _ := N.dep' 16 33 (by kernel_rfl)
          have e38 : a.tmps[38]?.getD undef = _ := N.dep' 21 38 (by kernel_rfl)
          have eg : a.tmps[28]?.getD undef = .bool false := N.dep' 11 28 (by kernel_rfl)
          rw [if_pos (by rw [wanted_get (g := 11) (d := 28) rfl rfl eg]; decide)]
          clear eg
          go_simp
          refine (HRS.out _ (below_undrew N.le)).mono ?_
          rintro e w4 ⟨rfl, b4⟩
          refine hK _ _ b4 ?_
          exact rfl
        refine ⟨?_, ?_⟩
        · intro a W K N hK
          have e39 : a.tmps[39]?.getD undef = _ := N.dep' 22 39 (by kernel_rfl)
          have eg : a.tmps[28]?.getD undef = .bool false := N.dep' 11 28 (by kernel_rfl)
          rw [if_pos (by rw [wanted_get (g := 11) (d := 28) rfl rfl eg]; decide)]
          clear eg
          go_simp
          refine hK _ _ (slotLe_refl _) ?_
          exact rfl
        refine ⟨?_, ?_⟩
        · intro a W K N hK
          have e28 : a.tmps[28]?.getD undef = _ := N.dep' 11 28 (by kernel_rfl)
          have e40 : a.tmps[40]?.getD undef = _ := N.dep' 23 40 (by kernel_rfl)
          rw [if_pos (wanted_no rfl)]
          go_simp
          refine hK _ _ (slotLe_refl _) ?_
          exact rfl
        exact trivial
      case fin =>
        intro W1 hW1
        simp only [FinAll, slotPhi, List.getD_cons_zero, List.getD_cons_succ, forall_eq, Act.put, List.setIfInBounds_toArray, List.set_cons_zero, List.set_cons_succ]
        have bW1 := below_trans hbl (below_undrew hW1)
        go_wp2_with fail
        go_roundw
        case rel => exact ⟨k + 1, by go_num, by omega, bW1⟩
        case measure => simp [intOf]; omega
    · obtain rfl : k = L1.length := by omega
      go_wp2_with fail
      go_ret
      exact ⟨rfl, hbl⟩
end Go.Proofs.Ytdodamkndigjkaa

/- Two keys compared. -/
set_option maxRecDepth 100000
namespace Go.Proofs.Ytdodamkndigjkaa
open Go.RowKit Go.Shelf Go.Maps
theorem kEql (W : World) (n n2 : List UInt8) (t t2 : Int) : (binOp .eql 53 (.agg #[.string ⟨n.toArray⟩, .int .i64 t]) (.agg #[.string ⟨n2.toArray⟩, .int .i64 t2])).run Try.prog W = .ok (.bool (decide (n = n2 ∧ t = t2))) W := by
  rw [run_eql_struct, run_equalIn_struct W 9999 53 _ _ (by rw [fieldsK]; exact Try.underlying53) heldK, fieldsK]
  by_cases hn : n = n2
  · subst hn
    by_cases ht : t = t2
    · subst ht
      simp [Op.eqFields, go_sem]
    · have ht' : (t == t2) = false := by simpa using ht
      simp [Op.eqFields, go_sem, ht', ht]
  · simp [Op.eqFields, go_sem, hn]
theorem geqS {x y : UInt8} (h : x < y) : Op.stringOp .geq ⟨#[x]⟩ ⟨#[y]⟩ = pure (.bool false) := by
  unfold Op.stringOp
  simp only [Lib.toList_data, Op.bytesLess, h, decide_true, Bool.true_or, Bool.not_true]
theorem geq1 (W : World) {x y : UInt8} (h : x < y) : (binOp .geq 9 (.string ⟨#[x]⟩) (.string ⟨#[y]⟩)).run Try.prog W = .ok (.bool false) W := by
  have e := geqS h
  unfold binOp
  simp [e, go_sem]
end Go.Proofs.Ytdodamkndigjkaa

/- Where a key's group stands, as the document looks for it: the last one of that key. -/
namespace Go.Proofs.Ytdodamkndigjkaa
namespace Mt
open Rd
theorem at_of {gs : List Gr} (hap : gs.Pairwise (fun a b => ¬ (a.name = b.name ∧ a.typ = b.typ))) {n : List UInt8} {t : Int} {j : Nat} (hj : j < gs.length) (h : isK n t gs[j] = true) : atK gs n t = j := by
  have hh : hasK gs n t = true := List.any_eq_true.2 ⟨_, List.getElem_mem hj, h⟩
  have hl := atK_has hh
  have hk : isK n t gs[atK gs n t] = true := List.findIdx_getElem (p := isK n t) (w := hl)
  rcases Nat.lt_trichotomy (atK gs n t) j with h1 | h1 | h1
  · have := (List.pairwise_iff_getElem.1 hap) _ _ hl hj h1
    have a := isK_iff.1 hk
    have b := isK_iff.1 h
    exact absurd ⟨a.1.trans b.1.symm, a.2.trans b.2.symm⟩ this
  · exact h1
  · have := List.not_of_lt_findIdx (p := isK n t) (xs := gs) (i := j) h1
    rw [h] at this
    cases this
def lastK (gs : List Gr) (n : List UInt8) (t : Int) (j : Nat) : Int := if hasK (gs.take j) n t then (atK gs n t : Int) else -1
theorem hasK_take {gs : List Gr} {j : Nat} (hj : j < gs.length) (n : List UInt8) (t : Int) : hasK (gs.take (j + 1)) n t = (hasK (gs.take j) n t || isK n t gs[j]) := by
  rw [List.take_succ_eq_append_getElem hj, hasK_snoc]
theorem lastK_zero (gs : List Gr) (n : List UInt8) (t : Int) : lastK gs n t 0 = -1 := rfl
theorem lastK_yes {gs : List Gr} (hap : gs.Pairwise (fun a b => ¬ (a.name = b.name ∧ a.typ = b.typ))) {n : List UInt8} {t : Int} {j : Nat} (hj : j < gs.length) (h : isK n t gs[j] = true) : lastK gs n t (j + 1) = (j : Int) := by
  unfold lastK
  rw [hasK_take hj, h, Bool.or_true, if_pos rfl, at_of hap hj h]
theorem lastK_no {gs : List Gr} {n : List UInt8} {t : Int} {j : Nat} (hj : j < gs.length) (h : isK n t gs[j] = false) : lastK gs n t (j + 1) = lastK gs n t j := by
  unfold lastK
  rw [hasK_take hj, h, Bool.or_false]
theorem lastK_all (gs : List Gr) (n : List UInt8) (t : Int) : lastK gs n t gs.length = if hasK gs n t then (atK gs n t : Int) else -1 := by
  unfold lastK
  rw [List.take_length]
theorem met_no {gs : List Gr} (hok : Ok gs) {r : RR} (h : hasK gs (Nm.fold r.name) r.typ = false) : met gs r = false := by
  unfold met
  rw [List.any_eq_false]
  intro g hg
  rw [Bool.not_eq_true, List.any_eq_false]
  intro x hx hs
  have h1 := sameR_key hs
  have h2 := hok.keyed g hg x hx
  have : hasK gs (Nm.fold r.name) r.typ = true := List.any_eq_true.2 ⟨g, hg, isK_iff.2 ⟨by rw [← h1.1, h2.1], by rw [← h1.2.1, h2.2.1]⟩⟩
  rw [h] at this
  cases this
theorem met_i {gs : List Gr} (hok : Ok gs) {r : RR} {i : Nat} (hi : i < gs.length) (_h : hasK gs (Nm.fold r.name) r.typ = true) (hat : atK gs (Nm.fold r.name) r.typ = i) : met gs r = gs[i].rrs.any fun x => sameR x r := by
  rw [Bool.eq_iff_iff]
  unfold met
  rw [List.any_eq_true]
  constructor
  · rintro ⟨g, hg, hs⟩
    have hs' := hs
    rw [List.any_eq_true] at hs'
    obtain ⟨x, hx, hs'⟩ := hs'
    obtain ⟨j, hj, rfl⟩ := List.mem_iff_getElem.1 hg
    have h1 := sameR_key hs'
    have h2 := hok.keyed _ hg x hx
    have := at_of hok.apart hj (isK_iff.2 ⟨by rw [← h1.1, h2.1], by rw [← h1.2.1, h2.2.1]⟩ : isK (Nm.fold r.name) r.typ gs[j] = true)
    rw [hat] at this
    subst this
    exact hs
  · intro hs
    exact ⟨_, List.getElem_mem hi, hs⟩
end Mt
end Go.Proofs.Ytdodamkndigjkaa
