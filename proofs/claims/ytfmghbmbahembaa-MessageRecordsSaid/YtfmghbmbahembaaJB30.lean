/- Datagrams: a head alone; EDNS, and what is none. -/
import Derived.Test.YtfmghbmbahembaaJB23
/- Datagrams: a head alone; EDNS, and what is none. -/
namespace Go.Proofs.Ytfmghbmbahembaa.Ms
open Go.Proofs.Ytfmghbmbahembaa

/-! ### Twelve bytes -/
def nil12 (x0 x1 x2 x3 : UInt8) : List UInt8 := [x0, x1, x2, x3, 0, 0, 0, 0, 0, 0, 0, 0]
theorem hdOf_self (b : List UInt8) : ({ hdOf b with qs := [], an := [], ns := [], ad := [], edns := false, size := 0 } : M) = hdOf b := by
  unfold hdOf M.zero
  rfl
theorem nil12_body (x0 x1 x2 x3 : UInt8) : dBody (nil12 x0 x1 x2 x3) = if threes (nil12 x0 x1 x2 x3) = 0 then some (hdOf (nil12 x0 x1 x2 x3)) else none := by
  have hl : (nil12 x0 x1 x2 x3).length = 12 := rfl
  have r4 : two? (nil12 x0 x1 x2 x3) 4 = some 0 := rfl
  have r6 : two? (nil12 x0 x1 x2 x3) 6 = some 0 := rfl
  have r8 : two? (nil12 x0 x1 x2 x3) 8 = some 0 := rfl
  have r10 : two? (nil12 x0 x1 x2 x3) 10 = some 0 := rfl
  have hs := hdOf_self (nil12 x0 x1 x2 x3)
  obtain ⟨b, hb⟩ : ∃ b, nil12 x0 x1 x2 x3 = b := ⟨_, rfl⟩
  rw [hb] at hl r4 r6 r8 r10 hs ⊢
  unfold dBody
  by_cases h : threes b = 0
  · rw [if_pos h, if_neg (by rw [h, hl]; decide), r4, r6, r8, r10]
    simp only [dQs, dSec]
    rw [if_neg (by decide)]
    rw [if_pos hl.symm, hs]
  · rw [if_neg h, if_pos (.inr h)]
theorem nil12_check (x0 x1 x2 x3 : UInt8) : check (hdOf (nil12 x0 x1 x2 x3)) = true := by
  have hh := hd_ok (nil12 x0 x1 x2 x3)
  unfold check checkH checkL
  simp only [Bool.and_eq_true, decide_eq_true_eq]
  exact ⟨⟨hh.id, hh.opc, hh.code, (by decide : 0 ≤ 4), (by decide : (0 : Int) ≤ 0 ∧ (0 : Int) ≤ 65535), .inl rfl⟩, rfl, (by decide : (0 ≤ 64) ∧ ([] : List Rd.RR).all Rd.check = true), (by decide : (0 ≤ 64) ∧ ([] : List Rd.RR).all Rd.check = true), (by decide : (0 ≤ 64) ∧ ([] : List Rd.RR).all Rd.check = true)⟩
theorem beq01 (n : Nat) (h : n ≤ 1) (k : Int) : bit (n == 1) k = (n : Int) * k := by
  have : n = 0 ∨ n = 1 := by omega
  rcases this with rfl | rfl <;> simp [bit]
theorem flag_sum (f : Nat) (h : f < 65536) : f / 32768 % 2 * 32768 + f / 2048 % 16 * 2048 + f / 1024 % 2 * 1024 + f / 512 % 2 * 512 + f / 256 % 2 * 256 + f / 128 % 2 * 128 + f % 16 + f / 16 % 8 * 16 = f := by omega
theorem flags_of {m : M} {f : Nat} (hf : f < 65536) (h1 : m.resp = (f / 32768 % 2 == 1)) (h2 : m.opc = (f / 2048 % 16 : Nat)) (h3 : m.auth = (f / 1024 % 2 == 1)) (h4 : m.cut = (f / 512 % 2 == 1)) (h5 : m.des = (f / 256 % 2 == 1)) (h6 : m.avl = (f / 128 % 2 == 1)) (h7 : m.code = (f % 16 : Nat)) :
    flags m = (f - f / 16 % 8 * 16 : Nat) := by
  unfold flags
  rw [h1, h2, h3, h4, h5, h6, h7, beq01 _ (by omega), beq01 _ (by omega), beq01 _ (by omega), beq01 _ (by omega), beq01 _ (by omega)]
  have := flag_sum f hf
  omega
theorem nil12_flags (x0 x1 x2 x3 : UInt8) : flags (hdOf (nil12 x0 x1 x2 x3)) = (x2.toNat * 256 + (x3.toNat % 16 + x3.toNat / 128 * 128) : Nat) := by
  have h2 := x2.toNat_lt
  have h3 := x3.toNat_lt
  rw [flags_of (m := hdOf (nil12 x0 x1 x2 x3)) (f := x2.toNat * 256 + x3.toNat) (by omega) rfl rfl rfl rfl rfl rfl rfl]
  omega
theorem byteOf_nat (x : UInt8) : byteOf (x.toNat : Int) = x := by
  unfold byteOf
  have := x.toNat_lt
  rw [show ((x.toNat : Int) % 256).toNat = x.toNat by omega]
  simp
theorem two_of (x y : Nat) (hx : x < 256) (hy : y < 256) : two ((x * 256 + y : Nat) : Int) = [UInt8.ofNat x, UInt8.ofNat y] := by
  unfold two byteOf
  congr 1
  · congr 1; omega
  · congr 2; omega
theorem nil12_enc (x0 x1 x2 x3 : UInt8) : enc (hdOf (nil12 x0 x1 x2 x3)) = (nil12 x0 x1 x2 (UInt8.ofNat (x3.toNat % 16 + x3.toNat / 128 * 128)), 0) := by
  have hc := nil12_check x0 x1 x2 x3
  have hw : wAll (hdOf (nil12 x0 x1 x2 x3)) = (WS.new 4096).put (head (hdOf (nil12 x0 x1 x2 x3))) := rfl
  obtain ⟨_, h1, h2⟩ := okw_head (hdOf (nil12 x0 x1 x2 x3))
  rw [(enc_yes hc (by rw [hw, h1]; decide)).1, hw, h2]
  have h0 := x0.toNat_lt
  have h1' := x1.toNat_lt
  have h2' := x2.toNat_lt
  have h3 := x3.toNat_lt
  have e1 : two (hdOf (nil12 x0 x1 x2 x3)).id = [x0, x1] := by
    have : (hdOf (nil12 x0 x1 x2 x3)).id = ((x0.toNat * 256 + x1.toNat : Nat) : Int) := rfl
    rw [this, two_of _ _ (by omega) (by omega), UInt8.ofNat_toNat, UInt8.ofNat_toNat]
  have e2 : head (hdOf (nil12 x0 x1 x2 x3)) = two (hdOf (nil12 x0 x1 x2 x3)).id ++ two (flags (hdOf (nil12 x0 x1 x2 x3))) ++ [0, 0, 0, 0, 0, 0, 0, 0] := by
    unfold head
    rw [List.append_assoc, List.append_assoc, List.append_assoc]
    congr 1
    show two 0 ++ (two 0 ++ (two 0 ++ two (0 + bit false 1))) = _
    decide
  rw [e2, e1, nil12_flags, two_of _ _ (by omega) (by omega), UInt8.ofNat_toNat]
  rfl

/-! ### EDNS -/
def optB (hi lo : UInt8) : List UInt8 := [0, 5, 1, 0, 0, 1, 0, 0, 0, 0, 0, 1, 1, 97, 0, 0, 1, 0, 1, 0, 0, 41, hi, lo, 0, 0, 0, 0, 0, 0]
theorem ws_ext {S T : WS} (h1 : S.most = T.most) (h2 : S.size = T.size) (h3 : S.out = T.out) (h4 : S.bad = T.bad) (h5 : S.tab = T.tab) : S = T := by
  cases S; cases T; simp_all
theorem optB_out (size : Int) : (wAll (oneOf 0 0 0 true size false)).out = optB (byteOf (size / 256)) (byteOf size) := by
  have hE : ∀ S : WS, wE S (oneOf 0 0 0 true size false) = S.put (opt size) := fun _ => rfl
  have hW : wAll (oneOf 0 0 0 true size false) = (wQ ((WS.new 4096).put (head (oneOf 0 0 0 true size false))) ⟨[1, 97, 0], 1, 1⟩).put (opt size) := rfl
  have hh : head (oneOf 0 0 0 true size false) = [0, 5, 1, 0, 0, 1, 0, 0, 0, 0, 0, 1] := by
    have : head (oneOf 0 0 0 true size false) = head (oneOf 0 0 0 true 0 false) := rfl
    rw [this]
    decide
  rw [hW, hh]
  have hq : wQ ((WS.new 4096).put [0, 5, 1, 0, 0, 1, 0, 0, 0, 0, 0, 1]) ⟨[1, 97, 0], 1, 1⟩ = { most := 4096, size := 19, out := [0, 5, 1, 0, 0, 1, 0, 0, 0, 0, 0, 1, 1, 97, 0, 0, 1, 0, 1], bad := false, tab := [([1, 97, 0], 12)] } :=
    ws_ext (by decide) (by decide) (by decide) (by decide) (by decide)
  rw [hq]
  rfl

/-- The message's bytes ahead of EDNS, with so many records said. -/
def askB (a b c : UInt8) : List UInt8 := [0, 5, 1, 0, 0, 1, 0, a, 0, b, 0, c, 1, 97, 0, 0, 1, 0, 1]
def optL (hi lo t n : UInt8) : List UInt8 := [0, 0, 41, hi, lo, t, t, t, t, 0, n]
theorem ask_q {b : List UInt8} (h : Holds b 12 [1, 97, 0, 0, 1, 0, 1]) : dQs b 1 12 = some ([⟨[1, 97, 0], 1, 1⟩], 19) := by
  have h0 : Holds b 12 (Nm.made [[97]]) := (Holds.app.1 (show Holds b 12 ([1, 97, 0] ++ [0, 1, 0, 1]) from h)).1
  have hg : Nm.good [[97]] := fun l hl => by
    rw [List.mem_singleton.1 hl]; exact ⟨by decide, by decide⟩
  have hr := (rd_made (fr := 12) (p := 12) (by decide) hg h0).gets (by decide)
  have hr' : Wn.get b ((12 : Nat) : Int) = some ([1, 97, 0], 15) := hr
  have t1 : two? b 15 = some 1 := by
    unfold two?
    rw [h 3 0 rfl, h 4 1 rfl]; rfl
  have t2 : two? b 17 = some 1 := by
    unfold two?
    rw [h 5 0 rfl, h 6 1 rfl]; rfl
  simp only [dQs, dQ]
  rw [hr']
  simp only
  rw [t1, t2]
  rfl
theorem opt_raw {b : List UInt8} {p : Nat} {hi lo t n : UInt8} (hp : 2 ≤ p) (h : Holds b p (optL hi lo t n)) (hl : p + 11 + n.toNat ≤ b.length) :
    ∃ w, dRaw b p = some w ∧ w.name = [0] ∧ w.typ = 41 ∧ w.cls = hi.toNat * 256 + lo.toNat ∧ w.at' + w.size = p + 11 + n.toNat := by
  have h0 := h 0 0 rfl
  rw [Nat.add_zero] at h0
  have hget : Wn.get b (p : Int) = some ([0], p + 1) := Rn.gets (.zero hp h0) (by decide)
  have t1 : two? b (p + 1) = some 41 := by
    unfold two?
    rw [h 1 0 rfl, h 2 41 rfl]; rfl
  have t2 : two? b (p + 1 + 2) = some (hi.toNat * 256 + lo.toNat) := by
    unfold two?
    rw [show p + 1 + 2 = p + 3 by omega, h 3 hi rfl, h 4 lo rfl]
  have t3 : two? b (p + 1 + 8) = some n.toNat := by
    unfold two?
    rw [show p + 1 + 8 = p + 9 by omega, h 9 0 rfl, h 10 n rfl]
    simp
  refine ⟨⟨[0], 41, hi.toNat * 256 + lo.toNat, Rd.number ((b.drop (p + 1 + 4)).take 4), p + 1 + 10, n.toNat⟩, ?_, rfl, rfl, rfl, by show p + 1 + 10 + n.toNat = _; omega⟩
  unfold dRaw
  rw [hget]
  simp only
  rw [t1, t2, t3]
  simp only
  rw [if_pos (by omega)]
theorem body_at {b : List UInt8} {c0 c1 c2 : Nat} {q : Q} (hl : b.length ≤ 4096) (ht : threes b = 0) (h4 : two? b 4 = some 1) (h6 : two? b 6 = some c0) (h8 : two? b 8 = some c1) (h10 : two? b 10 = some c2) (hq : dQs b 1 12 = some ([q], 19)) :
    dBody b = match dSec b 0 c0 ⟨19, false, 0, []⟩ with
      | none => none
      | some s0 => match dSec b 1 c1 ⟨s0.at', s0.edns, s0.esz, []⟩ with
        | none => none
        | some s1 => match dSec b 2 c2 ⟨s1.at', s1.edns, s1.esz, []⟩ with
          | none => none
          | some s2 => if s2.at' = b.length then some { hdOf b with qs := [q], an := s0.acc, ns := s1.acc, ad := s2.acc, edns := s2.edns, size := s2.esz } else none := by
  unfold dBody
  rw [if_neg (by rw [ht]; simp only [ne_eq, not_true_eq_false, or_false]; omega), h4, h6, h8, h10]
  simp only
  rw [if_neg (by decide), hq]
  rfl
theorem ask_threes (a b c : UInt8) (r : List UInt8) : threes (askB a b c ++ r) = 0 := by
  show ((1 : UInt8).toNat * 256 + (0 : UInt8).toNat) / 16 % 8 = 0
  decide
theorem hdOf_congr {a b : List UInt8} (h0 : a.getD 0 0 = b.getD 0 0) (h1 : a.getD 1 0 = b.getD 1 0) (h2 : a.getD 2 0 = b.getD 2 0) (h3 : a.getD 3 0 = b.getD 3 0) : hdOf a = hdOf b := by
  unfold hdOf
  rw [h0, h1, h2, h3]
theorem ask_holds (a b c : UInt8) (r : List UInt8) : Holds (askB a b c ++ r) 12 [1, 97, 0, 0, 1, 0, 1] := by
  have := (show Pre ([0, 5, 1, 0, 0, 1, 0, a, 0, b, 0, c] ++ [1, 97, 0, 0, 1, 0, 1]) (askB a b c ++ r) from ⟨r, rfl⟩).holds
  exact this
theorem sec_none {b : List UInt8} {i n : Nat} {s : St} (h : dRec b i s = none) : dSec b i (n + 1) s = none := by
  simp only [dSec]; rw [h]
theorem opts_twice (hi lo : UInt8) : dBody (askB 0 0 2 ++ (optL hi lo 0 0 ++ optL hi lo 0 0)) = none := by
  obtain ⟨b, hb⟩ : ∃ b, askB 0 0 2 ++ (optL hi lo 0 0 ++ optL hi lo 0 0) = b := ⟨_, rfl⟩
  have hl : b.length = 41 := by rw [← hb]; rfl
  have e1 : Holds b 19 (optL hi lo 0 0) := by
    rw [← hb, ← List.append_assoc]; exact (pre_app (askB 0 0 2 ++ optL hi lo 0 0) (optL hi lo 0 0)).holds
  have e2 : Holds b 30 (optL hi lo 0 0) := by
    rw [← hb, ← List.append_assoc]; exact (Pre.refl (askB 0 0 2 ++ optL hi lo 0 0 ++ optL hi lo 0 0)).holds
  obtain ⟨w, w1, w2, w3, w4, w5⟩ := opt_raw (by decide) e1 (by rw [hl]; decide)
  obtain ⟨v, v1, v2, v3, v4, v5⟩ := opt_raw (by decide) e2 (by rw [hl]; decide)
  rw [body_at (b := askB 0 0 2 ++ (optL hi lo 0 0 ++ optL hi lo 0 0)) (c0 := 0) (c1 := 0) (c2 := 2) (by rw [hb, hl]; decide) (ask_threes _ _ _ _) rfl rfl rfl rfl (ask_q (ask_holds _ _ _ _)), hb]
  have d1 : dRec b 2 ⟨19, false, 0, []⟩ = some ⟨30, true, w.cls, []⟩ := by
    unfold dRec
    simp only
    rw [w1]
    simp only
    rw [if_pos w3, if_neg (by rw [w2]; simp), w5]
    rfl
  have d2 : dRec b 2 ⟨30, true, w.cls, []⟩ = none := by
    unfold dRec
    simp only
    rw [v1]
    simp only
    rw [if_pos v3, if_pos (.inr (.inr trivial))]
  simp only [dSec]
  rw [d1]
  simp only
  rw [d2]
theorem opts_first (hi lo : UInt8) : dBody (askB 1 0 0 ++ optL hi lo 0 0) = none := by
  obtain ⟨b, hb⟩ : ∃ b, askB 1 0 0 ++ optL hi lo 0 0 = b := ⟨_, rfl⟩
  have hl : b.length = 30 := by rw [← hb]; rfl
  have e1 : Holds b 19 (optL hi lo 0 0) := by rw [← hb]; exact (Pre.refl (askB 1 0 0 ++ optL hi lo 0 0)).holds
  obtain ⟨w, w1, w2, w3, w4, w5⟩ := opt_raw (by decide) e1 (by rw [hl]; decide)
  rw [body_at (b := askB 1 0 0 ++ optL hi lo 0 0) (c0 := 1) (c1 := 0) (c2 := 0) (by rw [hb, hl]; decide) (ask_threes _ _ _ _) rfl rfl rfl rfl (ask_q (ask_holds _ _ _ _)), hb]
  have d1 : dRec b 0 ⟨19, false, 0, []⟩ = none := by
    unfold dRec
    simp only
    rw [w1]
    simp only
    rw [if_pos w3, if_pos (.inl (by decide))]
  rw [sec_none d1]
theorem opts_mid (hi lo : UInt8) : dBody (askB 0 1 0 ++ optL hi lo 0 0) = none := by
  obtain ⟨b, hb⟩ : ∃ b, askB 0 1 0 ++ optL hi lo 0 0 = b := ⟨_, rfl⟩
  have hl : b.length = 30 := by rw [← hb]; rfl
  have e1 : Holds b 19 (optL hi lo 0 0) := by rw [← hb]; exact (Pre.refl (askB 0 1 0 ++ optL hi lo 0 0)).holds
  obtain ⟨w, w1, w2, w3, w4, w5⟩ := opt_raw (by decide) e1 (by rw [hl]; decide)
  rw [body_at (b := askB 0 1 0 ++ optL hi lo 0 0) (c0 := 0) (c1 := 1) (c2 := 0) (by rw [hb, hl]; decide) (ask_threes _ _ _ _) rfl rfl rfl rfl (ask_q (ask_holds _ _ _ _)), hb]
  have d1 : dRec b 1 ⟨19, false, 0, []⟩ = none := by
    unfold dRec
    simp only
    rw [w1]
    simp only
    rw [if_pos w3, if_pos (.inl (by decide))]
  simp only [dSec]
  rw [d1]
theorem opts_name (hi lo : UInt8) : dBody (askB 0 0 1 ++ ([1, 98] ++ optL hi lo 0 0)) = none := by
  obtain ⟨b, hb⟩ : ∃ b, askB 0 0 1 ++ ([1, 98] ++ optL hi lo 0 0) = b := ⟨_, rfl⟩
  have hl : b.length = 32 := by rw [← hb]; rfl
  have e0 : Holds b 19 ([1, 98, 0] ++ [0, 41, hi, lo, 0, 0, 0, 0, 0, 0]) := by rw [← hb]; exact (show Pre (askB 0 0 1 ++ ([1, 98, 0] ++ [0, 41, hi, lo, 0, 0, 0, 0, 0, 0])) _ from Pre.refl _).holds
  have hg : Nm.good [[98]] := fun l hl => by
    rw [List.mem_singleton.1 hl]; exact ⟨by decide, by decide⟩
  have hr := (rd_made (b := b) (fr := 19) (p := 19) (by decide) hg (Holds.app.1 e0).1).gets (by decide)
  have hr' : Wn.get b ((19 : Nat) : Int) = some ([1, 98, 0], 22) := hr
  have e1 : Holds b 22 [0, 41, hi, lo, 0, 0, 0, 0, 0, 0] := (Holds.app.1 e0).2
  have t1 : two? b 22 = some 41 := by
    unfold two?
    rw [e1 0 0 rfl, e1 1 41 rfl]; rfl
  have d1 : dRec b 2 ⟨19, false, 0, []⟩ = none := by
    cases hd : dRec b 2 ⟨19, false, 0, []⟩ with
    | none => rfl
    | some s' =>
      exfalso
      obtain ⟨w, hw, hc⟩ := dRec_some hd
      obtain ⟨n, nx, t, c, sz, g1, g2, _, _, _, rfl⟩ := dRaw_some hw
      rw [hr'] at g1
      cases g1
      rw [t1] at g2
      cases g2
      rcases hc with ⟨_, _, h3, _⟩ | ⟨h3, _⟩
      · have h3' : ([1, 98, 0] : List UInt8) = [0] := h3
        revert h3'; decide
      · exact h3 rfl
  rw [body_at (b := askB 0 0 1 ++ ([1, 98] ++ optL hi lo 0 0)) (c0 := 0) (c1 := 0) (c2 := 1) (by rw [hb, hl]; decide) (ask_threes _ _ _ _) rfl rfl rfl rfl (ask_q (ask_holds _ _ _ _)), hb]
  simp only [dSec]
  rw [d1]
theorem opts_more (hi lo a b' c d : UInt8) : dBody (askB 0 0 1 ++ (optL hi lo 9 4 ++ [a, b', c, d])) = some (oneOf 0 0 0 true (hi.toNat * 256 + lo.toNat : Nat) false) := by
  obtain ⟨b, hb⟩ : ∃ b, askB 0 0 1 ++ (optL hi lo 9 4 ++ [a, b', c, d]) = b := ⟨_, rfl⟩
  have hl : b.length = 34 := by rw [← hb]; rfl
  have e1 : Holds b 19 (optL hi lo 9 4) := by
    rw [← hb, ← List.append_assoc]; exact (pre_app (askB 0 0 1 ++ optL hi lo 9 4) _).holds
  obtain ⟨w, w1, w2, w3, w4, w5⟩ := opt_raw (by decide) e1 (by rw [hl]; decide)
  have hh : hdOf (askB 0 0 1 ++ (optL hi lo 9 4 ++ [a, b', c, d])) = hdOf (askB 0 0 1) := hdOf_congr rfl rfl rfl rfl
  have hh2 : hdOf (askB 0 0 1) = { M.zero with id := 5, des := true } := by decide
  rw [body_at (b := askB 0 0 1 ++ (optL hi lo 9 4 ++ [a, b', c, d])) (c0 := 0) (c1 := 0) (c2 := 1) (by rw [hb, hl]; decide) (ask_threes _ _ _ _) rfl rfl rfl rfl (ask_q (ask_holds _ _ _ _)), hh, hh2, hb]
  have d1 : dRec b 2 ⟨19, false, 0, []⟩ = some ⟨34, true, w.cls, []⟩ := by
    unfold dRec
    simp only
    rw [w1]
    simp only
    rw [if_pos w3, if_neg (by rw [w2]; simp), w5]
    rfl
  simp only [dSec]
  rw [d1]
  simp only
  rw [if_pos hl.symm, w4]
  rfl
end Go.Proofs.Ytfmghbmbahembaa.Ms
