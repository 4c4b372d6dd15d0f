/- 2 texts put together: NSame, Ans. -/
import Derived.WalkKit
import Derived.BigQuiet
import Derived.Deep.QuietTactic
import Derived.Test.YtdodamkndigjkaaJB4
import Derived.Test.YtdodamkndigjkaaJB5
import Derived.Test.YtdodamkndigjkaaJB24
/- Same of two names: name.Same, and the document's own. -/
set_option maxRecDepth 100000
namespace Go.Proofs.Ytdodamkndigjkaa
open Go.RowKit Go.Shelf
attribute [local go_sem] Oper.semAt_some

set_option maxHeartbeats 400000 in
theorem cmpByte_any (a b : UInt8) (w : World) :
    Calls Try.prog 108 #[.int .u8 (a.toNat : Int), .int .u8 (b.toNat : Int)] w fun e w' => e = .returned (.int .i64 (Nm.cmpI a.toNat b.toNat)) ∧ w = w' := by
  by_cases h1 : a.toNat < b.toNat
  · have H := Lib.hid (Nm.cmpI_lt (x := a.toNat) (y := b.toNat) (by omega))
    go_enter Try.func108, Try.ntmps108
    go_wp2
    go_ret
    exact ⟨ret_int H.out.symm, rfl⟩
  · by_cases h2 : b.toNat < a.toNat
    · have H := Lib.hid (Nm.cmpI_gt (x := a.toNat) (y := b.toNat) (by omega))
      go_enter Try.func108, Try.ntmps108
      go_wp2
      go_ret
      exact ⟨ret_int H.out.symm, rfl⟩
    · have H := Lib.hid (Nm.cmpI_eq (x := a.toNat) (y := b.toNat) (by omega) (by omega))
      go_enter Try.func108, Try.ntmps108
      go_wp2
      go_ret
      exact ⟨ret_int H.out.symm, rfl⟩

set_option maxHeartbeats 400000 in
theorem cmpInt_any (a b : Int) (w : World) :
    Calls Try.prog 109 #[.int .i64 a, .int .i64 b] w fun e w' => e = .returned (.int .i64 (Nm.cmpI a b)) ∧ w = w' := by
  by_cases h1 : a < b
  · have H := Lib.hid (Nm.cmpI_lt h1)
    go_enter Try.func109, Try.ntmps109
    go_wp2
    go_ret
    exact ⟨ret_int H.out.symm, rfl⟩
  · by_cases h2 : b < a
    · have H := Lib.hid (Nm.cmpI_gt h2)
      go_enter Try.func109, Try.ntmps109
      go_wp2
      go_ret
      exact ⟨ret_int H.out.symm, rfl⟩
    · have H := Lib.hid (Nm.cmpI_eq h1 h2)
      go_enter Try.func109, Try.ntmps109
      go_wp2
      go_ret
      exact ⟨ret_int H.out.symm, rfl⟩

set_option maxHeartbeats 1000000 in
theorem compare_any (a b : List UInt8) (w : World) (_ha : a.length ≤ 100000) (_hb : b.length ≤ 100000) :
    Calls Try.prog 93 #[.string ⟨a.toArray⟩, .string ⟨b.toArray⟩] w fun e w' => e = .returned (.int .i64 (Nm.cmpN a b)) ∧ Drew w w' := by
  obtain ⟨m, hm⟩ : ∃ m, m = min a.length b.length := ⟨_, rfl⟩
  have hma : m ≤ a.length := by omega
  have hmb : m ≤ b.length := by omega
  have hmin : min (a.length : Int) (b.length : Int) = (m : Int) := by omega
  have HM := Lib.hid hm
  clear hm
  go_enter Try.func93, Try.ntmps93
  go_wp2
  go_loopw [12] (fun i wr => ∃ k : Nat, k ≤ m ∧ i = .int .i64 k ∧ Hid (Nm.cmpN (a.drop k) (b.drop k) = Nm.cmpN a b) ∧ Drew w wr) (fun i _ => m + 1 - (intOf i).toNat)
  case atStart => exact ⟨0, by omega, rfl, Lib.hid rfl, Drew.refl _⟩
  case round =>
    obtain ⟨k, hk, rfl, hv, hd⟩ := hrel
    by_cases hlt : k < m
    · have hka : k < a.length := by omega
      have hkb : k < b.length := by omega
      have hca : ((⟨a.toArray⟩ : ByteArray)[k]'hka) = a[k] := rfl
      have hcb : ((⟨b.toArray⟩ : ByteArray)[k]'hkb) = b[k] := rfl
      have hst := Nm.cmpN_step hka hkb hv.out
      have HS := Lib.hid hst
      clear hst
      by_cases hz : Nm.cmpI (Nm.small a[k]).toNat (Nm.small b[k]).toNat = 0
      · have HZ := Lib.hid hz
        have hz1 : (Nm.cmpI (Nm.small a[k]).toNat (Nm.small b[k]).toNat != 0) = false := by rw [bne_eq_false_iff_eq]; exact hz
        clear hz
        go_wp2
        go_quiet ((first | (go_at_call 102; exact Calls.quiet_of_same ((small_any _ _).mono fun _ _ h => ⟨h.1, h.2.symm⟩)) | (go_at_call 108; exact Calls.quiet_of_same ((cmpByte_any _ _ _).mono fun _ _ h => ⟨h.1, h.2.symm⟩))))
        go_wp2
        go_roundw
        case rel => exact ⟨k + 1, by omega, by go_num, Lib.hid (HS.out.1 HZ.out), hd.drewN _⟩
        case measure => simp [intOf]; omega
      · have HZ := Lib.hid hz
        have hz1 : (Nm.cmpI (Nm.small a[k]).toNat (Nm.small b[k]).toNat != 0) = true := by rw [bne_iff_ne]; exact hz
        clear hz
        go_wp2
        go_quiet ((first | (go_at_call 102; exact Calls.quiet_of_same ((small_any _ _).mono fun _ _ h => ⟨h.1, h.2.symm⟩)) | (go_at_call 108; exact Calls.quiet_of_same ((cmpByte_any _ _ _).mono fun _ _ h => ⟨h.1, h.2.symm⟩))))
        go_wp2
        go_ret
        exact ⟨ret_int (HS.out.2 HZ.out).symm, hd.drewN _⟩
    · have hf := Nm.cmpN_end (k := k) (by have := HM.out; omega) hv.out
      have HF := Lib.hid hf
      clear hf
      go_wp2_with (go_at_call 109; refine (cmpInt_any _ _ _).mono ?_; rintro e w' ⟨rfl, rfl⟩)
      go_ret
      exact ⟨ret_int HF.out.symm, hd⟩

set_option maxHeartbeats 1000000 in
theorem nsame_any (a b : List UInt8) (w : World) (ha : a.length ≤ 100000) (hb : b.length ≤ 100000) :
    Calls Try.prog 68 #[.string ⟨a.toArray⟩, .string ⟨b.toArray⟩] w fun e w' => e = .returned (.bool (Nm.same a b)) ∧ Drew w w' := by
  by_cases hl : a.length = b.length
  · have hl1 : ((a.length : Int) == (b.length : Int)) = true := by rw [beq_iff_eq]; omega
    cases hva : Nm.valid a
    · have H := Lib.hid (show Nm.same a b = false by simp [Nm.same, hva])
      have HA := Lib.hid hva
      clear hva
      go_enter Try.func68, Try.ntmps68
      go_wp2_with (go_at_call 74; refine (valid_any _ _ ha).mono ?_; rw [HA.out]; rintro e w' ⟨rfl, rfl⟩)
      go_ret
      exact ⟨ret_bool H.out.symm, Drew.refl _⟩
    · have HA := Lib.hid hva
      cases hvb : Nm.valid b
      · have H := Lib.hid (show Nm.same a b = false by simp [Nm.same, hvb])
        have HB := Lib.hid hvb
        clear hva hvb hl
        go_enter Try.func68, Try.ntmps68
        go_wp2_with (go_at_call 74; first | ((with_reducible refine (valid_any a _ ha).mono ?_); rw [HA.out]; rintro e w' ⟨rfl, rfl⟩) | ((with_reducible refine (valid_any b _ hb).mono ?_); rw [HB.out]; rintro e w' ⟨rfl, rfl⟩))
        go_ret
        exact ⟨ret_bool H.out.symm, Drew.refl _⟩
      · have H := Lib.hid (show Nm.same a b = (Nm.cmpN a b == 0) by rw [Bool.eq_iff_iff]; simp [Nm.same, hva, hvb, Nm.cmpN_zero])
        have HB := Lib.hid hvb
        clear hva hvb hl
        go_enter Try.func68, Try.ntmps68
        go_wp2_with (first | (go_at_call 74; first | ((with_reducible refine (valid_any a _ ha).mono ?_); rw [HA.out]; rintro e w' ⟨rfl, rfl⟩) | ((with_reducible refine (valid_any b _ hb).mono ?_); rw [HB.out]; rintro e w' ⟨rfl, rfl⟩)) | (go_at_call 93; refine (compare_any a b _ ha hb).mono ?_; rintro e w' ⟨rfl, hd⟩))
        go_ret
        exact ⟨ret_bool H.out.symm, hd⟩
  · have H := Lib.hid (show Nm.same a b = false by exact Nm.same_len hl)
    have hl1 : ((a.length : Int) == (b.length : Int)) = false := by rw [beq_eq_false_iff_ne]; omega
    clear hl
    go_enter Try.func68, Try.ntmps68
    go_wp2
    go_ret
    exact ⟨ret_bool H.out.symm, Drew.refl _⟩
set_option maxRecDepth 100000 in
set_option maxHeartbeats 2000000 in
theorem rnsame_any (a b : List UInt8) (w : World) (ha : a.length ≤ 100000) (hb : b.length ≤ 100000) :
    Calls Try.prog 40 #[.string ⟨a.toArray⟩, .string ⟨b.toArray⟩] w fun e w' => e = .returned (.bool (Nm.same a b)) ∧ Below w.heap.size w w' := by
  obtain ⟨x, hx⟩ : ∃ x, Nm.valid a = x := ⟨_, rfl⟩
  obtain ⟨y, hy⟩ : ∃ y, Nm.valid b = y := ⟨_, rfl⟩
  obtain ⟨s, hs⟩ : ∃ s, Nm.same a b = s := ⟨_, rfl⟩
  obtain ⟨fa, hfa⟩ : ∃ f, Nm.fold a = f := ⟨_, rfl⟩
  obtain ⟨fb, hfb⟩ : ∃ f, Nm.fold b = f := ⟨_, rfl⟩
  have HX := Lib.hid hx
  have HY := Lib.hid hy
  have HA := Lib.hid hfa
  have HB := Lib.hid hfb
  have bb : Below w.heap.size w w := Below.refl _ _
  have hcase : (x = false ∧ s = false) ∨ (x = true ∧ y = false ∧ s = false) ∨ (x = true ∧ y = true ∧ s = (fa == fb)) := by
    cases x
    · exact .inl ⟨rfl, by rw [← hs]; simp [Nm.same, hx]⟩
    · cases y
      · exact .inr (.inl ⟨rfl, rfl, by rw [← hs]; simp [Nm.same, hy]⟩)
      · refine .inr (.inr ⟨rfl, rfl, ?_⟩)
        rw [← hs, ← hfa, ← hfb]
        unfold Nm.same Nm.fold
        rw [hx, hy]
        simp
  rw [hs]
  clear hx hy hs hfa hfb
  rcases hcase with ⟨rfl, rfl⟩ | ⟨rfl, rfl, rfl⟩ | ⟨rfl, rfl, hss⟩
  case' inr.inr => have HSS := Lib.hid hss; clear hss
  all_goals
    go_enter Try.func40, Try.ntmps40
    go_wp2_with (first
      | (go_at_call 65; with_reducible refine (rvalid_any a _ ha).mono ?_; rw [HX.out]; rintro e w' ⟨rfl, b1⟩; replace bb := below_trans bb b1; clear b1)
      | (go_at_call 65; with_reducible refine (rvalid_any b _ hb).mono ?_; rw [HY.out]; rintro e w' ⟨rfl, b1⟩; replace bb := below_trans bb b1; clear b1)
      | (go_at_call 43; with_reducible refine (rfold_any a _ ha).mono ?_; rw [HA.out]; rintro e w' ⟨rfl, b1⟩; replace bb := below_trans bb b1; clear b1)
      | (go_at_call 43; with_reducible refine (rfold_any b _ hb).mono ?_; rw [HB.out]; rintro e w' ⟨rfl, b1⟩; replace bb := below_trans bb b1; clear b1))
    go_ret
    first | exact ⟨rfl, bb⟩ | exact ⟨ret_bool HSS.out.symm, bb⟩

end Go.Proofs.Ytdodamkndigjkaa

/- Answers: whose answer a message is. -/
set_option maxRecDepth 100000
namespace Go.Proofs.Ytdodamkndigjkaa
open Go.RowKit Go.Shelf Go.Maps
attribute [local go_sem] Oper.semAt_some

namespace Mt
def sameQ (a b : Ms.Q) : Bool := (a.typ == b.typ) && ((a.cls == b.cls) && Nm.same a.name b.name)
def one? (a b : List Ms.Q) : Bool := match a, b with
  | [p], [q] => sameQ p q
  | _, _ => false
def answers (a g : Ms.M) : Bool := g.resp && (decide (g.id = a.id) && (decide (g.opc = 0) && one? a.qs g.qs))
theorem one_len {a b : List Ms.Q} (h : ¬ (a.length = 1 ∧ b.length = 1)) : one? a b = false := by
  unfold one?
  split
  · exact absurd ⟨rfl, rfl⟩ h
  · rfl
end Mt

set_option maxHeartbeats 4000000 in
theorem isSame_any (a b : Ms.Q) (w : World) (ha : a.name.length ≤ 100000) (hb : b.name.length ≤ 100000) :
    Calls Try.prog 39 #[qV a, qV b] w fun e w' => e = .returned (.bool (Mt.sameQ a b)) ∧ Below w.heap.size w w' := by
  obtain ⟨n, t, c⟩ := a
  obtain ⟨n2, t2, c2⟩ := b
  simp only at ha hb
  unfold qV
  simp only
  have HN := Lib.hid (fun W => nsame_any n n2 W ha hb)
  clear ha hb
  obtain ⟨S, hS⟩ : ∃ S, Nm.same n n2 = S := ⟨_, rfl⟩
  have HS : Hid (Mt.sameQ ⟨n, t, c⟩ ⟨n2, t2, c2⟩ = ((t == t2) && ((c == c2) && S))) := Lib.hid (by unfold Mt.sameQ; rw [hS])
  rw [hS] at HN
  clear hS
  rw [HS.out]
  clear HS
  have bW := Lib.hid (((Below.refl w.heap.size w).alloc (Nat.le_refl _) (.cells #[.string ⟨n.toArray⟩, .int .i64 t, .int .i64 c] 36)).alloc (by simp) (.cells #[.string ⟨n2.toArray⟩, .int .i64 t2, .int .i64 c2] 36))
  have ka := blk_first w #[.string ⟨n.toArray⟩, .int .i64 t, .int .i64 c] 36 (.cells #[.string ⟨n2.toArray⟩, .int .i64 t2, .int .i64 c2] 36)
  have kb := blk_at1 w (.cells #[.string ⟨n.toArray⟩, .int .i64 t, .int .i64 c] 36) #[.string ⟨n2.toArray⟩, .int .i64 t2, .int .i64 c2] 36
  have a0 := ka.cell (i := 0) rfl
  have a1 := ka.cell (i := 1) rfl
  have a2 := ka.cell (i := 2) rfl
  have b0 := kb.cell (i := 0) rfl
  have b1 := kb.cell (i := 1) rfl
  have b2 := kb.cell (i := 2) rfl
  clear ka kb
  by_cases h1 : t = t2
  · subst h1
    have e1 : (t == t) = true := by simp
    rw [e1]
    by_cases h2 : c = c2
    · subst h2
      have e2 : (c == c) = true := by simp
      rw [e2]
      go_enter Try.func39, Try.ntmps39
      go_wp2_with (first
        | (go_at_call 68; refine (HN.out _).mono ?_; rintro e w1 ⟨rfl, d1⟩))
      go_ret
      exact ⟨rfl, bW.out.trans d1.below⟩
    · have e2 : (c == c2) = false := by simpa using h2
      rw [e2]
      clear h2
      go_enter Try.func39, Try.ntmps39
      go_wp2_with fail
      go_ret
      exact ⟨rfl, bW.out⟩
  · have e1 : (t == t2) = false := by simpa using h1
    rw [e1]
    clear h1
    go_enter Try.func39, Try.ntmps39
    go_wp2_with fail
    go_ret
    exact ⟨rfl, bW.out⟩

theorem readQ_cast {v : Value} {l l' : List Ms.Q} {W : World} (h : ReadQ v l W) (e : l = l') : ReadQ v l' W := e ▸ h

set_option maxHeartbeats 4000000 in
theorem eqfq_any (l : List Ms.Q) (q : Ms.Q) (va vb : Value) (w : World) (ha : ReadQ va l w) (hb' : ReadQ vb [q] w) (hl : l.length ≤ 100000) (hs : ∀ q ∈ l, q.name.length ≤ 100000) (hq : q.name.length ≤ 100000) :
    Calls Try.prog 38 #[va, vb, .func (.func 39) #[] #[]] w fun e w' => e = .returned (.bool (Mt.one? l [q])) ∧ Below w.heap.size w w' := by
  obtain ⟨ao1, cap1, rfl, _⟩ := ha.form
  obtain ⟨ao2, cap2, rfl, _⟩ := hb'.form
  by_cases hl1 : l.length = 1
  · obtain ⟨p, rfl⟩ : ∃ p, l = [p] := List.length_eq_one_iff.1 hl1
    clear hl1 hl
    obtain ⟨g1, f1, rfl, x0, x1, x2⟩ := readQ_at ha (j := 0) (by simp)
    obtain ⟨g2, f2, rfl, y0, y1, y2⟩ := readQ_at hb' (j := 0) (by simp)
    have hp := hs p (by simp)
    clear hs ha hb'
    obtain ⟨pa, pb, pc⟩ := p
    obtain ⟨qa, qb, qc⟩ := q
    simp only [List.getElem_cons_zero, Nat.zero_mul, Nat.add_zero] at x0 y0 x1 y1 x2 y2
    have C := Lib.hid (fun W => isSame_any ⟨pa, pb, pc⟩ ⟨qa, qb, qc⟩ W hp hq)
    unfold qV at C
    simp only at C
    have hone : Mt.one? [(⟨pa, pb, pc⟩ : Ms.Q)] [⟨qa, qb, qc⟩] = Mt.sameQ ⟨pa, pb, pc⟩ ⟨qa, qb, qc⟩ := rfl
    rw [hone]
    obtain ⟨S, hS⟩ : ∃ S, Mt.sameQ ⟨pa, pb, pc⟩ ⟨qa, qb, qc⟩ = S := ⟨_, rfl⟩
    rw [hS] at C ⊢
    clear hS hone hp hq
    have bA := (Below.refl w.heap.size w).alloc (Nat.le_refl _) (.cells #[.string ⟨pa.toArray⟩, .int .i64 pb, .int .i64 pc] 36)
    have y0' := keep_cell bA y0
    have y1' := keep_cell bA y1
    have y2' := keep_cell bA y2
    have bW := Lib.hid (bA.alloc (by simp) (.cells #[.string ⟨qa.toArray⟩, .int .i64 qb, .int .i64 qc] 36))
    clear bA
    go_enter Try.func38, Try.ntmps38
    go_wp2_with fail
    go_loopw [17] (fun i wr => (i = .int .i64 0 ∧ wr = w) ∨ (S = true ∧ i = .int .i64 1 ∧ Below w.heap.size w wr)) (fun i _ => 2 - (intOf i).toNat)
    case atStart => exact .inl ⟨rfl, rfl⟩
    case round =>
      rcases hrel with ⟨rfl, rfl⟩ | ⟨rfl, rfl, hb⟩
      · cases S with
        | true =>
          go_wp2_with fail
          refine (C.out _).mono ?_
          rintro e w1 ⟨rfl, b1⟩
          go_wp2_with fail
          go_roundw
          case rel => exact .inr ⟨by simp, by go_num, bW.out.trans (b1.mono bW.out.size)⟩
          case measure => simp [intOf]
        | false =>
          go_wp2_with fail
          refine (C.out _).mono ?_
          rintro e w1 ⟨rfl, b1⟩
          go_wp2_with fail
          go_ret
          exact ⟨rfl, bW.out.trans (b1.mono bW.out.size)⟩
      · go_wp2_with fail
        go_ret
        exact ⟨by simp, hb⟩
  · rw [Mt.one_len (fun h => hl1 h.1)]
    have hne : ((l.length : Int) != 1) = true := by rw [bne_iff_ne]; omega
    go_enter Try.func38, Try.ntmps38
    go_wp2_with fail
    go_ret
    exact ⟨rfl, Below.refl _ _⟩

set_option maxHeartbeats 4000000 in
theorem answers_any (m o : Ms.M) (vq va vn vd uq ua un ud : Value) (w : World) (hm : ReadQ vq m.qs w) (ho : ReadQ uq o.qs w) (hl : m.qs.length ≤ 100000) (_hol : o.qs.length ≤ 100000) (hs : ∀ q ∈ m.qs, q.name.length ≤ 100000) (hos : ∀ q ∈ o.qs, q.name.length ≤ 100000) :
    Calls Try.prog 15 #[msgV m vq va vn vd, msgV o uq ua un ud] w fun e w' => e = .returned (.bool (Mt.answers m o)) ∧ Below w.heap.size w w' := by
  obtain ⟨ao1, cap1, rfl, _⟩ := hm.form
  obtain ⟨ao2, cap2, rfl, _⟩ := ho.form
  unfold msgV
  have bW := Lib.hid (((Below.refl w.heap.size w).alloc (Nat.le_refl _) (.cells #[.int .i64 m.id, .bool m.resp, .int .i64 m.opc, .bool m.auth, .bool m.cut, .bool m.des, .bool m.avl, .int .i64 m.code, .slice ao1 m.qs.length cap1, va, vn, vd, .bool m.edns, .int .i64 m.size] 27)).alloc (by simp) (.cells #[.int .i64 o.id, .bool o.resp, .int .i64 o.opc, .bool o.auth, .bool o.cut, .bool o.des, .bool o.avl, .int .i64 o.code, .slice ao2 o.qs.length cap2, ua, un, ud, .bool o.edns, .int .i64 o.size] 27))
  have HM := Lib.hid (readQ_below hm bW.out)
  have HO := Lib.hid (readQ_below ho bW.out)
  have ka := blk_first w #[.int .i64 m.id, .bool m.resp, .int .i64 m.opc, .bool m.auth, .bool m.cut, .bool m.des, .bool m.avl, .int .i64 m.code, .slice ao1 m.qs.length cap1, va, vn, vd, .bool m.edns, .int .i64 m.size] 27 (.cells #[.int .i64 o.id, .bool o.resp, .int .i64 o.opc, .bool o.auth, .bool o.cut, .bool o.des, .bool o.avl, .int .i64 o.code, .slice ao2 o.qs.length cap2, ua, un, ud, .bool o.edns, .int .i64 o.size] 27)
  have kb := blk_at1 w (.cells #[.int .i64 m.id, .bool m.resp, .int .i64 m.opc, .bool m.auth, .bool m.cut, .bool m.des, .bool m.avl, .int .i64 m.code, .slice ao1 m.qs.length cap1, va, vn, vd, .bool m.edns, .int .i64 m.size] 27) #[.int .i64 o.id, .bool o.resp, .int .i64 o.opc, .bool o.auth, .bool o.cut, .bool o.des, .bool o.avl, .int .i64 o.code, .slice ao2 o.qs.length cap2, ua, un, ud, .bool o.edns, .int .i64 o.size] 27
  have a0 := ka.cell (i := 0) rfl
  have a8 := ka.cell (i := 8) rfl
  have b0 := kb.cell (i := 0) rfl
  have b1 := kb.cell (i := 1) rfl
  have b2 := kb.cell (i := 2) rfl
  have b8 := kb.cell (i := 8) rfl
  clear ka kb hm ho
  cases hr : o.resp with
  | false =>
    have H : Hid (Mt.answers m o = false) := Lib.hid (by unfold Mt.answers; rw [hr]; rfl)
    rw [H.out]
    simp only [hr] at b0 b1 b2 b8 a0 a8 ⊢
    go_enter Try.func15, Try.ntmps15
    go_wp2_with fail
    go_ret
    exact ⟨rfl, by simpa only [hr] using bW.out⟩
  | true =>
    simp only [hr] at b0 b1 b2 b8 a0 a8 bW HM HO ⊢
    by_cases h1 : o.id = m.id
    · have e1 : (o.id == m.id) = true := by simpa using h1
      by_cases h2 : o.opc = 0
      · have e2 : (o.opc == 0) = true := by simpa using h2
        by_cases h3 : o.qs.length = 1
        · obtain ⟨q, hq⟩ := List.length_eq_one_iff.1 h3
          have e3 : ((o.qs.length : Int) == 1) = true := by rw [beq_iff_eq]; omega
          have H : Hid (Mt.answers m o = Mt.one? m.qs [q]) := Lib.hid (by unfold Mt.answers; rw [hr, decide_eq_true h1, decide_eq_true h2, hq]; rfl)
          rw [H.out]
          have HOQ := readQ_cast HO.out hq
          have hqn := hos q (by rw [hq]; simp)
          have HE := Lib.hid (eqfq_any m.qs q _ _ _ HM.out HOQ hl hs hqn)
          clear HOQ hq hqn hs hos H h1 h2 h3
          go_enter Try.func15, Try.ntmps15
          go_wp2_with (first
            | (go_at_call 38; refine HE.out.mono ?_; rintro e w1 ⟨rfl, d1⟩))
          go_ret
          exact ⟨rfl, bW.out.trans (d1.mono bW.out.size)⟩
        · have e3 : ((o.qs.length : Int) == 1) = false := by rw [beq_eq_false_iff_ne]; omega
          have H : Hid (Mt.answers m o = false) := Lib.hid (by unfold Mt.answers; rw [Mt.one_len (fun h => h3 h.2)]; simp)
          rw [H.out]
          clear h1 h2 h3 H
          go_enter Try.func15, Try.ntmps15
          go_wp2_with fail
          go_ret
          exact ⟨rfl, bW.out⟩
      · have e2 : (o.opc == 0) = false := by simpa using h2
        have H : Hid (Mt.answers m o = false) := Lib.hid (by unfold Mt.answers; rw [decide_eq_false h2]; simp)
        rw [H.out]
        clear h1 h2 H
        go_enter Try.func15, Try.ntmps15
        go_wp2_with fail
        go_ret
        exact ⟨rfl, bW.out⟩
    · have e1 : (o.id == m.id) = false := by simpa using h1
      have H : Hid (Mt.answers m o = false) := Lib.hid (by unfold Mt.answers; rw [decide_eq_false h1]; simp)
      rw [H.out]
      clear h1 H
      go_enter Try.func15, Try.ntmps15
      go_wp2_with fail
      go_ret
      exact ⟨rfl, bW.out⟩
end Go.Proofs.Ytdodamkndigjkaa
