/- 2 texts put together: MsgB, MDig. -/
import Derived.Test.YtfmghbmbahembaaJB11
import Derived.Test.YtfmghbmbahembaaJB18
import Derived.Test.YtfmghbmbahembaaJB19
/- Datagrams: what was written is read as it was; cut off it is none; what is read may be. -/
namespace Go.Proofs.Ytfmghbmbahembaa.Ms
open Go.Proofs.Ytfmghbmbahembaa

theorem two_bytes {o b : List UInt8} {z : Int} (h : Pre (o ++ two z) b) (h0 : 0 ≤ z) (h1 : z ≤ 65535) : (((b.getD o.length 0).toNat * 256 + (b.getD (o.length + 1) 0).toNat : Nat) : Int) = z := by
  have hh := h.holds
  have e0 := hh 0 _ rfl
  have e1 := hh 1 _ rfl
  rw [Nat.add_zero] at e0
  rw [List.getD_eq_getElem?_getD, List.getD_eq_getElem?_getD, e0, e1]
  have m0 := byteOf_int (z / 256)
  have m1 := byteOf_int z
  simp only [Option.getD_some]
  omega
theorem bit01 (b : Bool) (k : Int) : bit b k = (if b then 1 else 0) * k := by cases b <;> simp [bit]
structure HeadOk (m : M) : Prop where
  id : 0 ≤ m.id ∧ m.id ≤ 65535
  opc : 0 ≤ m.opc ∧ m.opc ≤ 15
  code : 0 ≤ m.code ∧ m.code ≤ 15
theorem flags_bound {m : M} (h : HeadOk m) : 0 ≤ flags m ∧ flags m ≤ 65535 := by
  obtain ⟨_, ⟨h1, h2⟩, h3, h4⟩ := h
  unfold flags bit
  cases m.resp <;> cases m.auth <;> cases m.cut <;> cases m.des <;> cases m.avl <;> simp only [if_true, if_false, Bool.false_eq_true] <;> omega
/-- The head alone of a message. -/
def M.bare (m : M) : M := { M.zero with id := m.id, resp := m.resp, opc := m.opc, auth := m.auth, cut := m.cut, des := m.des, avl := m.avl, code := m.code }
theorem hd_read {m : M} (h : HeadOk m) {x b : List UInt8} (hb : Pre (two m.id ++ two (flags m) ++ x) b) : hdOf b = m.bare ∧ threes b = 0 := by
  have hb2 : Pre (two m.id ++ two (flags m)) b := (pre_app _ _).trans hb
  have hb1 : Pre ([] ++ two m.id) b := by rw [List.nil_append]; exact (pre_app _ _).trans hb2
  have hf := flags_bound h
  have e1 := two_bytes hb1 h.id.1 h.id.2
  have e2 := two_bytes hb2 hf.1 hf.2
  simp only [List.length_nil, Nat.zero_add, two_len] at e1 e2
  obtain ⟨_, ⟨h1, h2⟩, h3, h4⟩ := h
  unfold hdOf threes M.bare
  obtain ⟨f, hff⟩ : ∃ f, (b.getD 2 0).toNat * 256 + (b.getD 3 0).toNat = f := ⟨_, rfl⟩
  rw [hff] at e2 ⊢
  have hfl : (f : Int) = (if m.resp then 1 else 0) * 32768 + m.opc * 2048 + (if m.auth then 1 else 0) * 1024 + (if m.cut then 1 else 0) * 512 + (if m.des then 1 else 0) * 256 + (if m.avl then 1 else 0) * 128 + m.code := by
    rw [e2]; unfold flags; rw [bit01, bit01, bit01, bit01, bit01]
  rw [e1]
  simp only [M.mk.injEq, true_and, and_true]
  refine ⟨⟨?_, ?_, ?_, ?_, ?_, ?_, ?_⟩, ?_⟩
  all_goals (cases hr : m.resp <;> cases ha : m.auth <;> cases hc : m.cut <;> cases hd : m.des <;> cases hv : m.avl)
  all_goals simp only [hr, ha, hc, hd, hv, if_true, if_false, Bool.false_eq_true] at hfl
  all_goals first | omega | (rw [beq_eq_false_iff_ne]; omega) | (rw [beq_iff_eq]; omega)

theorem head_len (m : M) : (head m).length = 12 := rfl
theorem okw_head (m : M) : OkW ((WS.new 4096).put (head m)) ∧ ((WS.new 4096).put (head m)).size = 12 ∧ ((WS.new 4096).put (head m)).out = head m := by
  have e : (WS.new 4096).put (head m) = { WS.new 4096 with size := 12, out := head m } := by
    rw [put_fits (by rw [head_len]; decide)]
    rfl
  rw [e]
  exact ⟨⟨⟨head_len m, (show 2 ≤ 12 by decide), fun k v h => (nomatch (show none = some v from h))⟩, fun k v h => (nomatch (show none = some v from h)), rfl, rfl, (show 12 ≤ 4096 by decide)⟩, rfl, rfl⟩

theorem opt_len (z : Int) : (opt z).length = 11 := rfl
theorem opt_read {S : WS} (h : OkW S) {z : Int} (h0 : 0 ≤ z) (h1 : z ≤ 65535) (hs : S.size + 11 ≤ 4096) {b : List UInt8} (hb : Pre (S.put (opt z)).out b) (es : Int) (acc : List Rd.RR) :
    dRec b 2 ⟨S.size, false, es, acc⟩ = some ⟨S.size + 11, true, z, acc⟩ := by
  obtain ⟨p1, p2, p3⟩ := okw_put h (x := opt z) (by rw [opt_len]; exact hs)
  rw [p3] at hb
  have hlen := hb.len
  rw [List.length_append, opt_len, h.good.full] at hlen
  have hb4 : Pre (S.out ++ [0] ++ two 41 ++ two z ++ four 0 ++ two 0) b := by
    have : S.out ++ [0] ++ two 41 ++ two z ++ four 0 ++ two 0 = S.out ++ opt z := by unfold opt; simp only [List.append_assoc]
    rw [this]; exact hb
  have hb3 := (pre_app _ _).trans hb4
  have hb2 := (pre_app _ _).trans hb3
  have hb1 := (pre_app _ _).trans hb2
  have hb0 := (pre_app _ _).trans hb1
  have g0 := hb0.holds 0 _ rfl
  rw [h.good.full, Nat.add_zero] at g0
  have hget : Wn.get b (S.size : Int) = some ([0], S.size + 1) := Rn.gets (.zero h.good.two g0) (by decide)
  have r1 := two_read hb1 (by decide) (by decide)
  have r2 := two_read hb2 h0 h1
  have r3 := two_read hb4 (by decide) (by decide)
  simp only [List.length_append, two_len, four_length, h.good.full, List.length_cons, List.length_nil] at r1 r2 r3
  unfold dRec dRaw
  simp only
  rw [hget]
  simp only
  have e2 : S.size + 1 + 2 = S.size + (0 + 1) + 2 := by omega
  have e3 : S.size + 1 + 8 = S.size + (0 + 1) + 2 + 2 + 4 := by omega
  have e1 : S.size + 1 = S.size + (0 + 1) := by omega
  rw [e2, e3, e1, r1, r2, r3]
  simp only [Int.reduceToNat]
  rw [if_pos (by omega)]
  simp only [if_true]
  rw [if_neg (by simp)]
  congr 2
  omega

theorem check_split {m : M} (h : check m = true) : HeadOk m ∧ m.qs.length ≤ 4 ∧ (0 ≤ m.size ∧ m.size ≤ 65535) ∧ (m.size = 0 ∨ m.edns = true) ∧ m.qs.all checkQ = true ∧
    (m.an.length ≤ 64 ∧ m.an.all Rd.check = true) ∧ (m.ns.length ≤ 64 ∧ m.ns.all Rd.check = true) ∧ (m.ad.length ≤ 64 ∧ m.ad.all Rd.check = true) := by
  unfold check checkH checkL at h
  simp only [Bool.and_eq_true, decide_eq_true_eq] at h
  obtain ⟨⟨h1, h2, h3, h4, h5, h6⟩, h7, h8, h9, h10⟩ := h
  exact ⟨⟨h1, h2, h3⟩, h4, h5, h6, h7, h8, h9, h10⟩
theorem wE_mono (S : WS) (m : M) : S.size ≤ (wE S m).size := by
  unfold wE
  split
  · show S.size ≤ S.size + _; omega
  · exact Nat.le_refl _
/-- What was written is read as it was. -/
theorem back {m : M} (hc : check m = true) (hs : (wAll m).size ≤ 4096) : (wAll m).bad = false ∧ (wAll m).out.length = (wAll m).size ∧ 12 ≤ (wAll m).size ∧ dBody (wAll m).out = some m ∧ hdOf (wAll m).out = m.bare := by
  obtain ⟨hh, hq, hz, hez, hqs, han, hns, had⟩ := check_split hc
  unfold wAll at hs ⊢
  obtain ⟨k0, k1, k2⟩ := okw_head m
  obtain ⟨S0, e0⟩ : ∃ S0, (WS.new 4096).put (head m) = S0 := ⟨_, rfl⟩
  rw [e0] at k0 k1 k2 hs ⊢
  have m1 := wQs_mono m.qs S0
  have m2 := wRs_mono m.an (m.qs.foldl wQ S0)
  have m3 := wRs_mono m.ns (m.an.foldl wR (m.qs.foldl wQ S0))
  have m4 := wRs_mono m.ad (m.ns.foldl wR (m.an.foldl wR (m.qs.foldl wQ S0)))
  have m5 := wE_mono (m.ad.foldl wR (m.ns.foldl wR (m.an.foldl wR (m.qs.foldl wQ S0)))) m
  obtain ⟨a1, a2, a3⟩ := wQs_read m.qs k0 hqs (by omega)
  obtain ⟨S1, e1⟩ : ∃ S1, m.qs.foldl wQ S0 = S1 := ⟨_, rfl⟩
  rw [e1] at a1 a2 a3 m1 m2 m3 m4 m5 hs ⊢
  obtain ⟨b1, b2, b3⟩ := wRs_read 0 m.an a1 han.2 (by omega)
  obtain ⟨S2, e2⟩ : ∃ S1', m.an.foldl wR S1 = S1' := ⟨_, rfl⟩
  rw [e2] at b1 b2 b3 m2 m3 m4 m5 hs ⊢
  obtain ⟨c1, c2, c3⟩ := wRs_read 1 m.ns b1 hns.2 (by omega)
  obtain ⟨S3, e3⟩ : ∃ S1', m.ns.foldl wR S2 = S1' := ⟨_, rfl⟩
  rw [e3] at c1 c2 c3 m3 m4 m5 hs ⊢
  obtain ⟨d1, d2, d3⟩ := wRs_read 2 m.ad c1 had.2 (by omega)
  obtain ⟨S4, e4⟩ : ∃ S1', m.ad.foldl wR S3 = S1' := ⟨_, rfl⟩
  rw [e4] at d1 d2 d3 m4 m5 hs ⊢
  have f1 : OkW (wE S4 m) ∧ Pre S4.out (wE S4 m).out ∧ ∀ b, Pre (wE S4 m).out b → dSec b 2 (m.ad.length + (if m.edns then 1 else 0)) ⟨S3.size, false, 0, []⟩ = some ⟨(wE S4 m).size, m.edns, m.size, m.ad⟩ := by
    cases he : m.edns with
    | false =>
      have ew : wE S4 m = S4 := by unfold wE; rw [he]; rfl
      rw [ew]
      refine ⟨d1, Pre.refl _, fun b hb => ?_⟩
      have hz0 : m.size = 0 := by rcases hez with h | h; exact h; rw [he] at h; cases h
      have := d3 b hb false 0 [] (by simpa using had.1)
      rw [if_neg (by simp), Nat.add_zero, this, hz0]
      rfl
    | true =>
      have ew : wE S4 m = S4.put (opt m.size) := by unfold wE; rw [he]; rfl
      rw [ew] at hs ⊢
      have es : (S4.put (opt m.size)).size = S4.size + 11 := rfl
      obtain ⟨p1, p2, p3⟩ := okw_put d1 (x := opt m.size) (by rw [opt_len]; omega)
      refine ⟨p1, by rw [p3]; exact pre_app _ _, fun b hb => ?_⟩
      have hb4 : Pre S4.out b := (by rw [p3]; exact pre_app _ _ : Pre S4.out (S4.put (opt m.size)).out).trans hb
      rw [if_pos rfl, dSec_append, d3 b hb4 false 0 [] (by simpa using had.1)]
      show dSec b 2 1 ⟨S4.size, false, 0, [] ++ m.ad⟩ = _
      show (match dRec b 2 ⟨S4.size, false, 0, [] ++ m.ad⟩ with | none => none | some s' => some s') = _
      rw [opt_read d1 hz.1 hz.2 (by omega) hb 0 ([] ++ m.ad)]
      rfl
  obtain ⟨f1, f2, f3⟩ := f1
  obtain ⟨Se, ee⟩ : ∃ S1', wE S4 m = S1' := ⟨_, rfl⟩
  rw [ee] at f1 f2 f3 m5 hs ⊢
  have hfull := f1.good.full
  refine ⟨f1.bad, hfull, by omega, ?_⟩
  have pe := Pre.refl Se.out
  have p4 := f2.trans pe
  have p3 := d2.trans p4
  have p2 := c2.trans p3
  have p1 := b2.trans p2
  have p0 := a2.trans p1
  rw [k2] at p0
  obtain ⟨b, hbb⟩ : ∃ b, Se.out = b := ⟨_, rfl⟩
  rw [hbb] at p0 p1 p2 p3 p4 pe hfull ⊢
  have pe' : Pre Se.out b := by rw [hbb]; exact Pre.refl _
  have q5 : Pre (two m.id ++ two (flags m) ++ two (m.qs.length : Int) ++ two (m.an.length : Int) ++ two (m.ns.length : Int) ++ two ((m.ad.length : Int) + bit m.edns 1)) b := p0
  have q4 := (pre_app _ _).trans q5
  have q3 := (pre_app _ _).trans q4
  have q2 := (pre_app _ _).trans q3
  obtain ⟨h1, h2⟩ := hd_read hh q2
  have hbit : 0 ≤ bit m.edns 1 ∧ bit m.edns 1 ≤ 1 := by unfold bit; split <;> omega
  have r2 := two_read q2 (by omega) (by omega)
  have r3 := two_read q3 (by omega) (by omega)
  have r4 := two_read q4 (by omega) (by omega)
  have r5 := two_read q5 (by omega) (by omega)
  simp only [List.length_append, two_len, Nat.reduceAdd, Int.toNat_natCast] at r2 r3 r4 r5
  refine ⟨?_, h1⟩
  unfold dBody
  rw [if_neg (by rw [h2]; simp only [ne_eq, not_true_eq_false, or_false]; omega), r2, r3, r4, r5]
  simp only
  rw [if_neg (by omega)]
  have ra := a3 b p1
  rw [k1] at ra
  rw [ra]
  simp only
  rw [b3 b p2 false 0 [] (by simpa using han.1)]
  simp only [List.nil_append]
  rw [c3 b p3 false 0 [] (by simpa using hns.1)]
  simp only [List.nil_append]
  have hct : ((m.ad.length : Int) + bit m.edns 1).toNat = m.ad.length + (if m.edns then 1 else 0) := by
    unfold bit; split <;> omega
  rw [hct, f3 b pe']
  simp only
  rw [if_pos hfull.symm, h1]
  rfl
end Go.Proofs.Ytfmghbmbahembaa.Ms

/- The head: digits, writeHead. -/
namespace Go.Proofs.Ytfmghbmbahembaa
open Go.RowKit Go.Shelf Go.Maps
attribute [local go_sem] Oper.semAt_some

theorem bits_or_nat (a b : Nat) (ha : a < 4611686018427387904) (hb : b < 4611686018427387904) : bits .or .i64 (a : Int) (b : Int) = ((a ||| b : Nat) : Int) := by
  show IntKind.i64.wrap ((BitVec.ofInt 64 (a : Int) ||| BitVec.ofInt 64 (b : Int)).toNat : Int) = _
  have h1 : (BitVec.ofInt 64 (a : Int)).toNat = a := by rw [BitVec.toNat_ofInt]; omega
  have h2 : (BitVec.ofInt 64 (b : Int)).toNat = b := by rw [BitVec.toNat_ofInt]; omega
  rw [BitVec.toNat_or, h1, h2, IntKind.wrap_i64]
  have : a ||| b < 2 ^ 62 := Nat.or_lt_two_pow (by omega) (by omega)
  omega

namespace Ms
def digitK : Nat → Nat
  | 0 => 32768
  | 1 => 1024
  | 2 => 512
  | 3 => 256
  | _ => 128
def flagK (r a c d v : Bool) : Nat → Bool
  | 0 => r
  | 1 => a
  | 2 => c
  | 3 => d
  | _ => v
/-- The digits that are laid so far. -/
def dg (o c : Nat) (r a u d v : Bool) : Nat → Nat
  | 0 => (o * 2048) ||| c
  | k + 1 => if flagK r a u d v k then dg o c r a u d v k ||| digitK k else dg o c r a u d v k
theorem dg_sum : ∀ (o c : Fin 16) (r a u d v : Bool), dg o.1 c.1 r a u d v 5 = (if r then 32768 else 0) + o.1 * 2048 + (if a then 1024 else 0) + (if u then 512 else 0) + (if d then 256 else 0) + (if v then 128 else 0) + c.1 := by decide +kernel
theorem dg_flags {m : M} (h : HeadOk m) : ((dg m.opc.toNat m.code.toNat m.resp m.auth m.cut m.des m.avl 5 : Nat) : Int) = flags m := by
  have ho := h.opc
  have hc := h.code
  have := dg_sum ⟨m.opc.toNat, by omega⟩ ⟨m.code.toNat, by omega⟩ m.resp m.auth m.cut m.des m.avl
  simp only at this
  rw [this]
  unfold flags bit
  cases m.resp <;> cases m.auth <;> cases m.cut <;> cases m.des <;> cases m.avl <;> simp <;> omega
theorem dg_lt (o c : Nat) (ho : o < 16) (hc : c < 16) (r a u d v : Bool) : ∀ k, dg o c r a u d v k < 65536
  | 0 => Nat.or_lt_two_pow (n := 16) (show o * 2048 < 2 ^ 16 by omega) (show c < 2 ^ 16 by omega)
  | k + 1 => by
    have ih := dg_lt o c ho hc r a u d v k
    unfold dg
    split
    · exact Nat.or_lt_two_pow (n := 16) ih (by unfold digitK; split <;> decide)
    · exact ih
end Ms
theorem idx5_0 (w : World) (a b c d e f g h i j : Value) : (Instr.index 125 (.agg #[a, b, c, d, e, f, g, h, i, j]) (.int .i64 0)).run Try.prog w = .ok (.agg #[a, b]) w := by kernel_rfl
theorem idx5_1 (w : World) (a b c d e f g h i j : Value) : (Instr.index 125 (.agg #[a, b, c, d, e, f, g, h, i, j]) (.int .i64 1)).run Try.prog w = .ok (.agg #[c, d]) w := by kernel_rfl
theorem idx5_2 (w : World) (a b c d e f g h i j : Value) : (Instr.index 125 (.agg #[a, b, c, d, e, f, g, h, i, j]) (.int .i64 2)).run Try.prog w = .ok (.agg #[e, f]) w := by kernel_rfl
theorem idx5_3 (w : World) (a b c d e f g h i j : Value) : (Instr.index 125 (.agg #[a, b, c, d, e, f, g, h, i, j]) (.int .i64 3)).run Try.prog w = .ok (.agg #[g, h]) w := by kernel_rfl
theorem idx5_4 (w : World) (a b c d e f g h i j : Value) : (Instr.index 125 (.agg #[a, b, c, d, e, f, g, h, i, j]) (.int .i64 4)).run Try.prog w = .ok (.agg #[i, j]) w := by kernel_rfl
theorem dg_step {o c : Nat} (ho : o < 16) (hc : c < 16) (r a u d v : Bool) (k : Nat) (D : Int) (hD : (Ms.digitK k : Int) = D) (hf : Ms.flagK r a u d v k = true) : bits .or .i64 (Ms.dg o c r a u d v k : Int) D = (Ms.dg o c r a u d v (k + 1) : Int) := by
  have := Ms.dg_lt o c ho hc r a u d v k
  have h2 : Ms.digitK k < 65536 := by unfold Ms.digitK; split <;> decide
  rw [← hD, bits_or_nat _ _ (by omega) (by omega)]
  show _ = (((if Ms.flagK r a u d v k then _ else _ : Nat)) : Int)
  rw [if_pos hf]
theorem dg_stay {o c : Nat} (r a u d v : Bool) (k : Nat) (hf : Ms.flagK r a u d v k = false) : Ms.dg o c r a u d v (k + 1) = Ms.dg o c r a u d v k := by
  show (if Ms.flagK r a u d v k then _ else _ : Nat) = _
  rw [if_neg (by rw [hf]; simp)]

set_option maxRecDepth 100000 in
set_option maxHeartbeats 4000000 in
theorem digits_any (m : Ms.M) (vq va vn vd : Value) (w : World) (hm : Ms.HeadOk m) :
    Calls Try.prog 61 #[msgV m vq va vn vd] w fun e w' => e = .returned (.int .i64 (Ms.flags m)) ∧ Below w.heap.size w w' := by
  have hfin := Ms.dg_flags hm
  have ho := hm.opc
  have hc := hm.code
  obtain ⟨id, resp, opc, auth, cut, des, avl, code, qs, an, ns, ad, edns, size⟩ := m
  simp only at ho hc hfin
  obtain ⟨o, rfl⟩ := Int.eq_ofNat_of_zero_le ho.1
  obtain ⟨c, rfl⟩ := Int.eq_ofNat_of_zero_le hc.1
  have ho16 : o < 16 := by omega
  have hc16 : c < 16 := by omega
  simp only [Int.toNat_natCast] at hfin
  unfold msgV
  simp only
  have hor : bits .or .i64 ((o : Int) * 2048) (c : Int) = (Ms.dg o c resp auth cut des avl 0 : Int) := by
    rw [show (o : Int) * 2048 = ((o * 2048 : Nat) : Int) by omega, bits_or_nat _ _ (by omega) (by omega)]
    rfl
  have HOR := Lib.hid hor
  have HFIN := Lib.hid hfin
  have HDS := Lib.hid (fun k D hD hf => dg_step ho16 hc16 resp auth cut des avl k D hD hf)
  have HDT := Lib.hid (fun k hf => dg_stay (o := o) (c := c) resp auth cut des avl k hf)
  clear hor hfin hm
  go_enter Try.func61, Try.ntmps61
  go_wp2_with fail
  rw [HOR.out]
  go_loopw [3, 28] (fun d i wr => ∃ k : Nat, i = .int .i64 (k : Int) ∧ k ≤ 5 ∧ d = .int .i64 (Ms.dg o c resp auth cut des avl k : Int) ∧ Below w.heap.size w wr) (fun _ i _ => 6 - (intOf i).toNat)
  case atStart => exact ⟨0, rfl, by omega, rfl, (Below.refl _ w).alloc (Nat.le_refl _) _⟩
  case round =>
    clear HOR
    obtain ⟨k, rfl, hk, rfl, hb⟩ := hrel
    have hcase : k = 0 ∨ k = 1 ∨ k = 2 ∨ k = 3 ∨ k = 4 ∨ k = 5 := by omega
    rcases hcase with rfl | rfl | rfl | rfl | rfl | rfl
    · have ix := fun W => idx5_0 W (.bool resp) (.int .i64 32768) (.bool auth) (.int .i64 1024) (.bool cut) (.int .i64 512) (.bool des) (.int .i64 256) (.bool avl) (.int .i64 128)
      simp only [show ((0 : Nat) : Int) = 0 from rfl]
      cases resp with
      | true =>
        have hs := HDS.out 0 32768 rfl rfl
        generalize Ms.dg o c _ _ _ _ _ 0 = z at hs ⊢
        have HS := Lib.hid hs
        clear hs
        go_wp2_with fail
        go_roundw
        case rel => exact ⟨1, by go_num, by omega, by rw [HS.out], hb.alloc hb.size _⟩
        case measure => simp [intOf]
      | false =>
        have HS := Lib.hid (HDT.out 0 rfl)
        generalize Ms.dg o c _ _ _ _ _ 0 = z at HS ⊢
        go_wp2_with fail
        go_roundw
        case rel => exact ⟨1, by go_num, by omega, by rw [HS.out], hb.alloc hb.size _⟩
        case measure => simp [intOf]
    · have ix := fun W => idx5_1 W (.bool resp) (.int .i64 32768) (.bool auth) (.int .i64 1024) (.bool cut) (.int .i64 512) (.bool des) (.int .i64 256) (.bool avl) (.int .i64 128)
      simp only [show ((1 : Nat) : Int) = 1 from rfl]
      cases auth with
      | true =>
        have hs := HDS.out 1 1024 rfl rfl
        generalize Ms.dg o c _ _ _ _ _ 1 = z at hs ⊢
        have HS := Lib.hid hs
        clear hs
        go_wp2_with fail
        go_roundw
        case rel => exact ⟨2, by go_num, by omega, by rw [HS.out], hb.alloc hb.size _⟩
        case measure => simp [intOf]
      | false =>
        have HS := Lib.hid (HDT.out 1 rfl)
        generalize Ms.dg o c _ _ _ _ _ 1 = z at HS ⊢
        go_wp2_with fail
        go_roundw
        case rel => exact ⟨2, by go_num, by omega, by rw [HS.out], hb.alloc hb.size _⟩
        case measure => simp [intOf]
    · have ix := fun W => idx5_2 W (.bool resp) (.int .i64 32768) (.bool auth) (.int .i64 1024) (.bool cut) (.int .i64 512) (.bool des) (.int .i64 256) (.bool avl) (.int .i64 128)
      simp only [show ((2 : Nat) : Int) = 2 from rfl]
      cases cut with
      | true =>
        have hs := HDS.out 2 512 rfl rfl
        generalize Ms.dg o c _ _ _ _ _ 2 = z at hs ⊢
        have HS := Lib.hid hs
        clear hs
        go_wp2_with fail
        go_roundw
        case rel => exact ⟨3, by go_num, by omega, by rw [HS.out], hb.alloc hb.size _⟩
        case measure => simp [intOf]
      | false =>
        have HS := Lib.hid (HDT.out 2 rfl)
        generalize Ms.dg o c _ _ _ _ _ 2 = z at HS ⊢
        go_wp2_with fail
        go_roundw
        case rel => exact ⟨3, by go_num, by omega, by rw [HS.out], hb.alloc hb.size _⟩
        case measure => simp [intOf]
    · have ix := fun W => idx5_3 W (.bool resp) (.int .i64 32768) (.bool auth) (.int .i64 1024) (.bool cut) (.int .i64 512) (.bool des) (.int .i64 256) (.bool avl) (.int .i64 128)
      simp only [show ((3 : Nat) : Int) = 3 from rfl]
      cases des with
      | true =>
        have hs := HDS.out 3 256 rfl rfl
        generalize Ms.dg o c _ _ _ _ _ 3 = z at hs ⊢
        have HS := Lib.hid hs
        clear hs
        go_wp2_with fail
        go_roundw
        case rel => exact ⟨4, by go_num, by omega, by rw [HS.out], hb.alloc hb.size _⟩
        case measure => simp [intOf]
      | false =>
        have HS := Lib.hid (HDT.out 3 rfl)
        generalize Ms.dg o c _ _ _ _ _ 3 = z at HS ⊢
        go_wp2_with fail
        go_roundw
        case rel => exact ⟨4, by go_num, by omega, by rw [HS.out], hb.alloc hb.size _⟩
        case measure => simp [intOf]
    · have ix := fun W => idx5_4 W (.bool resp) (.int .i64 32768) (.bool auth) (.int .i64 1024) (.bool cut) (.int .i64 512) (.bool des) (.int .i64 256) (.bool avl) (.int .i64 128)
      simp only [show ((4 : Nat) : Int) = 4 from rfl]
      cases avl with
      | true =>
        have hs := HDS.out 4 128 rfl rfl
        generalize Ms.dg o c _ _ _ _ _ 4 = z at hs ⊢
        have HS := Lib.hid hs
        clear hs
        go_wp2_with fail
        go_roundw
        case rel => exact ⟨5, by go_num, by omega, by rw [HS.out], hb.alloc hb.size _⟩
        case measure => simp [intOf]
      | false =>
        have HS := Lib.hid (HDT.out 4 rfl)
        generalize Ms.dg o c _ _ _ _ _ 4 = z at HS ⊢
        go_wp2_with fail
        go_roundw
        case rel => exact ⟨5, by go_num, by omega, by rw [HS.out], hb.alloc hb.size _⟩
        case measure => simp [intOf]
    · simp only [show ((5 : Nat) : Int) = 5 from rfl]
      rw [HFIN.out]
      go_wp2_with fail
      go_ret
      exact ⟨rfl, hb⟩

theorem put6 (S : WS) (a b c d e f : List UInt8) : (((((S.put a).put b).put c).put d).put e).put f = S.put (a ++ b ++ c ++ d ++ e ++ f) := by
  simp only [WS.put_put, List.append_assoc]
def hcells (m : Ms.M) (vq va vn vd : Value) : Array Value := #[.int .i64 m.id, .bool m.resp, .int .i64 m.opc, .bool m.auth, .bool m.cut, .bool m.des, .bool m.avl, .int .i64 m.code, vq, va, vn, vd, .bool m.edns, .int .i64 m.size]
/-- A block beside a Writer. -/
theorem Block.turnF {W W' : World} {R : Nat} {f : Nat → Prop} {cs : Array Value} {t : TypeId} (h : Block W R cs t) (ht : Turn f W W') (hne : ¬ f R) : Block W' R cs t := (ht.block R h.lt hne).trans h
theorem grow_up {f : Nat → Prop} {w W W' : World} (h : W.heap.size ≤ W'.heap.size) (k : Nat) (hk : grow f w W k) : grow f w W' k := hk.imp id (fun h' => ⟨h'.1, by omega⟩)

set_option maxRecDepth 100000 in
set_option maxHeartbeats 4000000 in
theorem head_any (B : Nat) (S : WS) (f : Nat → Prop) (m : Ms.M) (vq va vn vd : Value) (w : World) (h : WrE B S f w) (hf : ∀ k, f k → k < w.heap.size) (hL : Lists m vq va vn vd w) (hm : Ms.HeadOk m) (hl : S.size + 12 ≤ 1000000) (hs : Slim m) :
    Calls Try.prog 36 #[.pointer (some ⟨B, 0, none⟩), msgV m vq va vn vd] w (ActRet B (S.put (Ms.head m)) f w) := by
  have hP : S.put (Ms.head m) = (((((S.put (two m.id)).put (two (Ms.flags m))).put (two (m.qs.length : Int))).put (two (m.an.length : Int))).put (two (m.ns.length : Int))).put (two ((m.ad.length : Int) + Ms.bit m.edns 1)) := (put6 _ _ _ _ _ _ _).symm
  have D := Lib.hid (fun W => digits_any m vq va vn vd W hm)
  obtain ⟨aq, cq, rfl, _⟩ := hL.qs.form
  obtain ⟨aa, ca, rfl, _⟩ := hL.an.form
  obtain ⟨an, cn, rfl, _⟩ := hL.ns.form
  obtain ⟨ad, cd, rfl, _⟩ := hL.ad.form
  have hq := hs.qs
  have ha := hs.an.len
  have hn := hs.ns.len
  have hd := hs.ad.len
  have HP := Lib.hid hP
  obtain ⟨w0, hw0⟩ : ∃ w0, w.alloc (.cells (hcells m (.slice aq m.qs.length cq) (.slice aa m.an.length ca) (.slice an m.ns.length cn) (.slice ad m.ad.length cd)) 27) = w0 := ⟨_, rfl⟩
  have hb0 : Below w.heap.size w w0 := by rw [← hw0]; exact (Below.refl _ _).alloc (Nat.le_refl _) _
  have K0 : Hid (Block w0 w.heap.size (hcells m (.slice aq m.qs.length cq) (.slice aa m.an.length ca) (.slice an m.ns.length cn) (.slice ad m.ad.length cd)) 27) := Lib.hid (by rw [← hw0]; exact Block.new _ _ _)
  have HW := Lib.hid ((h.below hb0).widen (f := f) (g := grow f w0 w0) fun _ _ => .inl)
  have HT : Hid (Turn f w0 w0) := Lib.hid (Turn.refl _ _)
  have hR : ¬ f w.heap.size := fun e => by have := hf _ e; omega
  have HFIN : Hid (∀ S' e w', ActRet B S' f w0 e w' → ActRet B S' f w e w') := Lib.hid (fun S' e w' h => ⟨h.1, (Turn.of_below hb0).trans (h.2.1.mono fun _ _ => .inl), h.2.2.widen fun k _ hk => by
    subst hw0; exact grow_alloc k hk⟩)
  clear hP h hL hs hm hf hb0
  unfold hcells at K0 hw0
  have HW0 := Lib.hid hw0
  clear hw0
  unfold msgV at D ⊢
  go_enter Try.func36, Try.ntmps36
  go_wp2_with fail
  rw [HW0.out]
  clear HW0
  obtain ⟨R, hRR⟩ : ∃ R, w.heap.size = R := ⟨_, rfl⟩
  rw [hRR] at K0 hR ⊢
  clear hRR
  refine (wtwo_any B S _ m.id _ HW.out (by first | omega | (simp only [WS.put, two_len]; omega))).mono ?_
  intro e1 w1 h1
  have h1' := h1.then HT.out
  obtain ⟨rfl, ht1, hw1⟩ := h1'
  replace HT := Lib.hid ht1
  replace HW := Lib.hid hw1
  clear h1 ht1 hw1
  have c0 := (K0.out.turnF HT.out hR).cell (i := 0) (v := .int .i64 m.id) rfl
  have c1 := (K0.out.turnF HT.out hR).cell (i := 1) (v := .bool m.resp) rfl
  have c2 := (K0.out.turnF HT.out hR).cell (i := 2) (v := .int .i64 m.opc) rfl
  have c3 := (K0.out.turnF HT.out hR).cell (i := 3) (v := .bool m.auth) rfl
  have c4 := (K0.out.turnF HT.out hR).cell (i := 4) (v := .bool m.cut) rfl
  have c5 := (K0.out.turnF HT.out hR).cell (i := 5) (v := .bool m.des) rfl
  have c6 := (K0.out.turnF HT.out hR).cell (i := 6) (v := .bool m.avl) rfl
  have c7 := (K0.out.turnF HT.out hR).cell (i := 7) (v := .int .i64 m.code) rfl
  have c8 := (K0.out.turnF HT.out hR).cell (i := 8) (v := .slice aq m.qs.length cq) rfl
  have c9 := (K0.out.turnF HT.out hR).cell (i := 9) (v := .slice aa m.an.length ca) rfl
  have c10 := (K0.out.turnF HT.out hR).cell (i := 10) (v := .slice an m.ns.length cn) rfl
  have c11 := (K0.out.turnF HT.out hR).cell (i := 11) (v := .slice ad m.ad.length cd) rfl
  have c12 := (K0.out.turnF HT.out hR).cell (i := 12) (v := .bool m.edns) rfl
  have c13 := (K0.out.turnF HT.out hR).cell (i := 13) (v := .int .i64 m.size) rfl
  go_wp2_with fail
  refine (D.out _).mono ?_
  rintro e1 w2 ⟨rfl, b2⟩
  replace HW := Lib.hid ((HW.out.below b2).widen (g := grow f w0 w2) fun k _ hk => grow_up b2.size k hk)
  replace HT := Lib.hid (HT.out.then (Turn.of_below b2))
  clear c0 c1 c2 c3 c4 c5 c6 c7 c8 c9 c10 c11 c12 c13
  clear b2
  go_wp2_with fail
  refine (wtwo_any B (S.put (two m.id)) _ (Ms.flags m) _ HW.out (by first | omega | (simp only [WS.put, two_len]; omega))).mono ?_
  intro e3 w3 h3
  have h3' := h3.then HT.out
  obtain ⟨rfl, ht3, hw3⟩ := h3'
  replace HT := Lib.hid ht3
  replace HW := Lib.hid hw3
  clear h3 ht3 hw3
  have c8 := (K0.out.turnF HT.out hR).cell (i := 8) (v := .slice aq m.qs.length cq) rfl
  go_wp2_with fail
  refine (wtwo_any B ((S.put (two m.id)).put (two (Ms.flags m))) _ (m.qs.length : Int) _ HW.out (by first | omega | (simp only [WS.put, two_len]; omega))).mono ?_
  intro e4 w4 h4
  have h4' := h4.then HT.out
  obtain ⟨rfl, ht4, hw4⟩ := h4'
  replace HT := Lib.hid ht4
  replace HW := Lib.hid hw4
  clear h4 ht4 hw4
  clear c8
  have c9 := (K0.out.turnF HT.out hR).cell (i := 9) (v := .slice aa m.an.length ca) rfl
  go_wp2_with fail
  refine (wtwo_any B (((S.put (two m.id)).put (two (Ms.flags m))).put (two (m.qs.length : Int))) _ (m.an.length : Int) _ HW.out (by first | omega | (simp only [WS.put, two_len]; omega))).mono ?_
  intro e5 w5 h5
  have h5' := h5.then HT.out
  obtain ⟨rfl, ht5, hw5⟩ := h5'
  replace HT := Lib.hid ht5
  replace HW := Lib.hid hw5
  clear h5 ht5 hw5
  clear c9
  have c10 := (K0.out.turnF HT.out hR).cell (i := 10) (v := .slice an m.ns.length cn) rfl
  go_wp2_with fail
  refine (wtwo_any B ((((S.put (two m.id)).put (two (Ms.flags m))).put (two (m.qs.length : Int))).put (two (m.an.length : Int))) _ (m.ns.length : Int) _ HW.out (by first | omega | (simp only [WS.put, two_len]; omega))).mono ?_
  intro e6 w6 h6
  have h6' := h6.then HT.out
  obtain ⟨rfl, ht6, hw6⟩ := h6'
  replace HT := Lib.hid ht6
  replace HW := Lib.hid hw6
  clear h6 ht6 hw6
  clear c10
  have c11 := (K0.out.turnF HT.out hR).cell (i := 11) (v := .slice ad m.ad.length cd) rfl
  have hed : ∃ ed, m.edns = ed := ⟨_, rfl⟩
  obtain ⟨ed, hed⟩ := hed
  have c12 := (K0.out.turnF HT.out hR).cell (i := 12) (v := .bool m.edns) rfl
  rw [hed] at c12
  have HED := Lib.hid hed
  clear hed
  cases ed with
  | true =>
    have e9 : S.put (Ms.head m) = ((((((S.put (two m.id)).put (two (Ms.flags m))).put (two (m.qs.length : Int))).put (two (m.an.length : Int))).put (two (m.ns.length : Int)))).put (two ((m.ad.length : Int) + 1)) := by rw [HP.out, HED.out]; rfl
    have HP9 := Lib.hid e9
    clear e9
    go_wp2_with fail
    refine (wtwo_any B (((((S.put (two m.id)).put (two (Ms.flags m))).put (two (m.qs.length : Int))).put (two (m.an.length : Int))).put (two (m.ns.length : Int))) _ ((m.ad.length : Int) + 1) _ HW.out (by first | omega | (simp only [WS.put, two_len]; omega))).mono ?_
    intro e7 w7 h7
    have h7' := h7.then HT.out
    obtain ⟨rfl, ht7, hw7⟩ := h7'
    replace HT := Lib.hid ht7
    replace HW := Lib.hid hw7
    clear h7 ht7 hw7
    clear c11 c12
    go_wp2_with fail
    go_end0
    rw [HP9.out]
    exact HFIN.out _ _ _ ⟨rfl, HT.out, HW.out⟩
  | false =>
    have e9 : S.put (Ms.head m) = ((((((S.put (two m.id)).put (two (Ms.flags m))).put (two (m.qs.length : Int))).put (two (m.an.length : Int))).put (two (m.ns.length : Int)))).put (two (m.ad.length : Int)) := by rw [HP.out, HED.out]; simp [Ms.bit]
    have HP9 := Lib.hid e9
    clear e9
    go_wp2_with fail
    refine (wtwo_any B (((((S.put (two m.id)).put (two (Ms.flags m))).put (two (m.qs.length : Int))).put (two (m.an.length : Int))).put (two (m.ns.length : Int))) _ (m.ad.length : Int) _ HW.out (by first | omega | (simp only [WS.put, two_len]; omega))).mono ?_
    intro e8 w8 h8
    have h8' := h8.then HT.out
    obtain ⟨rfl, ht8, hw8⟩ := h8'
    replace HT := Lib.hid ht8
    replace HW := Lib.hid hw8
    clear h8 ht8 hw8
    clear c11 c12
    go_wp2_with fail
    go_end0
    rw [HP9.out]
    exact HFIN.out _ _ _ ⟨rfl, HT.out, HW.out⟩
end Go.Proofs.Ytfmghbmbahembaa
