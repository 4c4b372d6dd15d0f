/- Alloc. -/
import Derived.Test.YtkndbldjablhoaaDoorAroom
set_option maxRecDepth 100000
namespace Go.Proofs.YtkndbldjablhoaaDoor
open Go.RowKit Go.Shelf
namespace Ar
theorem first_or (us : List Nat) (m : Nat) : ∀ d low, (∀ j, low ≤ j → j < low + d → us.getD j 0 = m) ∨ ∃ l, low ≤ l ∧ l < low + d ∧ us.getD l 0 ≠ m ∧ ∀ j, low ≤ j → j < l → us.getD j 0 = m
  | 0, low => .inl fun j h1 h2 => by omega
  | d + 1, low => by
    by_cases h : us.getD low 0 = m
    · rcases first_or us m d (low + 1) with h1 | ⟨l, h1, h2, h3, h4⟩
      · exact .inl fun j a b => by
          by_cases e : j = low
          · rw [e]; exact h
          · exact h1 j (by omega) (by omega)
      · exact .inr ⟨l, by omega, by omega, h3, fun j a b => by
          by_cases e : j = low
          · rw [e]; exact h
          · exact h4 j (by omega) b⟩
    · exact .inr ⟨low, Nat.le_refl _, by omega, h, fun j a b => by omega⟩
theorem sumT_ge : ∀ {xs : List Pc}, (∀ p ∈ xs, p.Ok) → 16 * xs.length ≤ sumT xs
  | [], _ => Nat.zero_le _
  | p :: r, h => by
    have := (h p (List.mem_cons_self ..)).ge
    have := sumT_ge (xs := r) (fun q hq => h q (List.mem_cons_of_mem _ hq))
    simp only [sumT_cons, List.length_cons]; omega
/-- There is a handle. -/
theorem Inv.handle {S : St} {pcs : List Pc} (I : Inv S pcs) (h16 : 16 ≤ S.mem.length - S.used) : ∃ l, l < S.us.length ∧ S.low ≤ l ∧ (∀ j, j < l → S.us.getD j 0 = 18446744073709551615) ∧ S.us.getD l 0 < 18446744073709551615 := by
  have t := I.tab
  have hlow := t.low
  rcases first_or S.us 18446744073709551615 (S.us.length - S.low) S.low with h | ⟨l, h1, h2, h3, h4⟩
  · exfalso
    have hall : ∀ j, j < S.us.length → S.us.getD j 0 = 18446744073709551615 := fun j hj => by
      by_cases e : j < S.low
      · exact t.full j e
      · exact h j (by omega) (by omega)
    have key := nodup_le (l := List.range' 1 S.pl.length) (m := (blocks pcs).map Pc.owner) List.nodup_range' (fun i hi => by
      rw [List.mem_range'_1] at hi
      obtain ⟨k, rfl⟩ : ∃ k, i = k + 1 := ⟨i - 1, by omega⟩
      have hb : bitOn S.us (k + 1) = true := by
        rw [bitOn_test', Nat.add_sub_cancel, hall (k / 64) (by have := t.plus; omega)]
        have := Nat.testBit_two_pow_sub_one 64 (k % 64)
        rw [show (2 : Nat) ^ 64 - 1 = 18446744073709551615 by decide] at this
        rw [this]; simp; omega
      have hp : PlaceOf S ((k + 1 : Nat) : Int) = some (S.pl.getD k 0) := by rw [placeOf_nat, if_pos ⟨by omega, hb⟩]
      obtain ⟨p, p1, p2, p3⟩ := (I.hn _ _).1 hp
      exact List.mem_map.2 ⟨p, mem_blocks.2 ⟨at_mem p1, p2⟩, p3⟩)
    simp only [List.length_range', List.length_map] at key
    have h2 := sumT_ge (blocks_ok I.ok)
    have h3 := I.cap
    have h4 := I.used
    omega
  · refine ⟨l, by omega, h1, fun j hj => ?_, by have := t.word l; omega⟩
    by_cases e : j < S.low
    · exact t.full j e
    · exact h4 j (by omega) hj
end Ar
/-- A block that was just made. -/
structure IsNew (b : Ar.Pc) (h n : Nat) : Prop where
  free : b.free = false
  own : b.owner = h
  size : b.size = n
  zero : b.data.take n = Ar.zeros n
def AllocRet (A : Nat) (S : Ar.St) (pcs : List Ar.Pc) (n : Nat) (f : Nat → Prop) (w : World) (e : Ending) (w' : World) : Prop :=
  ∃ (h : Nat) (L' : Loc) (S' : Ar.St) (pcs' B1 B2 : List Ar.Pc) (b : Ar.Pc), e = .returned (.tuple #[.int .i64 (h : Int), .int .i64 0]) ∧ Ars A L' S' f w w' ∧ Ar.Inv S' pcs' ∧ S'.mem.length = S.mem.length ∧ Ar.blocks pcs = B1 ++ B2 ∧ Ar.blocks pcs' = B1 ++ b :: B2 ∧ IsNew b h n ∧ 1 ≤ h ∧ (∀ q ∈ Ar.blocks pcs, q.owner ≠ h) ∧ (∀ j, 1 ≤ j → j < h → ∃ q ∈ Ar.blocks pcs, q.owner = j)
theorem alloc_end {A : Nat} {L' L2 : Loc} {S S1 : Ar.St} {pcs xs ys : List Ar.Pc} {p : Ar.Pc} {n l : Nat} {f : Nat → Prop} {w w1 : World} (I1 : Ar.Inv S1 (xs ++ p :: ys)) (hb : Ar.blocks (xs ++ p :: ys) = Ar.blocks pcs) (hm : S1.mem.length = S.mem.length) (hf : p.free = true) (hp : Ar.cost n ≤ p.takes) (hn : n ≤ 4096)
    (l1 : l < S1.us.length) (l3 : ∀ j, j < l → S1.us.getD j 0 = 18446744073709551615) (l4 : S1.us.getD l 0 < 18446744073709551615) :
    (Ar.total xs ≠ Ar.fin (Ar.takeH S1 l (Ar.total xs)) ∧ Ar.headAt S1.mem (Ar.total xs) = p.hd (Ar.lastT 0 xs) ∧ Ar.total xs + p.takes ≤ S1.mem.length ∧ p.size = p.takes ∧ (Ar.total xs + p.takes) % 16 = 0 ∧ (p.owner < S1.nd.length ∧ (Ar.nodeAt S1.nd p.owner).n < S1.nd.length ∧ (Ar.nodeAt S1.nd p.owner).l < S1.nd.length) ∧ (∀ c, c < 17 → c < (Ar.takeFree (Ar.takeH S1 l (Ar.total xs)) (Ar.total xs)).nd.length ∧ (Ar.nodeAt (Ar.takeFree (Ar.takeH S1 l (Ar.total xs)) (Ar.total xs)).nd c).n < (Ar.takeFree (Ar.takeH S1 l (Ar.total xs)) (Ar.total xs)).nd.length) ∧ (Ar.takeFree (Ar.takeH S1 l (Ar.total xs)) (Ar.total xs)).spare < (Ar.takeFree (Ar.takeH S1 l (Ar.total xs)) (Ar.total xs)).nd.length ∧ (Ar.takeFree (Ar.takeH S1 l (Ar.total xs)) (Ar.total xs)).nd.length ≤ 70000) ∧
    (∀ L' w', Ars A L' { Ar.settle (Ar.takeH S1 l (Ar.total xs)) (Ar.total xs) (Ar.nextH S1 l + 1) n with used := S1.used + Ar.cost n } f w w' → (Ar.settle (Ar.takeH S1 l (Ar.total xs)) (Ar.total xs) (Ar.nextH S1 l + 1) n).mem.length = S.mem.length → AllocRet A S pcs n f w (.returned (.tuple #[.int .i64 ((Ar.nextH S1 l + 1 : Nat) : Int), .int .i64 0])) w') := by
  obtain ⟨n1, n2, n3, n4, n5⟩ := Ar.nextH_spec I1.tab l1 l3 l4
  have hpl := I1.tab.lim
  have hlen := I1.len
  have hlim := I1.lim
  rw [Ar.total_app] at hlen
  simp only [Ar.total] at hlen
  have hnone : Ar.PlaceOf S1 ((Ar.nextH S1 l + 1 : Nat) : Int) = none := by rw [Ar.placeOf_nat, if_neg (by rw [n2]; simp)]
  obtain ⟨hyp, pcs', hinv, hbl⟩ := Ar.settle_math (T := Ar.takeH S1 l (Ar.total xs)) (h := Ar.nextH S1 l + 1) I1 hf hn hp (by omega) rfl rfl rfl (I1.tab.take l1 l3 l4 (by omega)) (by simp [Ar.takeH]) (fun z => Ar.placeOf_take I1.tab l1 l3 l4 z) hnone rfl
  refine ⟨hyp, fun L' w' hA hml => ?_⟩
  refine ⟨Ar.nextH S1 l + 1, L', _, pcs', Ar.blocks xs, Ar.blocks ys, _, rfl, hA, hinv, hml, ?_, hbl, ⟨rfl, rfl, rfl, ?_⟩, by omega, fun q hq e => ?_, fun j h1 h2 => ?_⟩
  · rw [← hb, Ar.blocks_app, Ar.blocks_free ys hf]
  · unfold Ar.mkBlock
    simp only
    rw [List.take_left' (by simp [Ar.zeros])]
  · rw [← hb] at hq
    obtain ⟨q1, q2⟩ := Ar.mem_blocks.1 hq
    obtain ⟨v, hv⟩ := Ar.at_of_mem q1
    have := (I1.hn _ v).2 ⟨q, hv, q2, e⟩
    rw [hnone] at this
    cases this
  · obtain ⟨k, rfl⟩ : ∃ k, j = k + 1 := ⟨j - 1, by omega⟩
    have hx : Ar.PlaceOf S1 ((k + 1 : Nat) : Int) = some (S1.pl.getD k 0) := by rw [Ar.placeOf_nat, if_pos ⟨by omega, n3 k (by omega)⟩]
    obtain ⟨q, q1, q2, q3⟩ := (I1.hn _ _).1 hx
    exact ⟨q, by rw [← hb]; exact Ar.mem_blocks.2 ⟨Ar.at_mem q1, q2⟩, q3⟩
set_option maxHeartbeats 2000000 in
theorem alloc_big (v : Value) (z : Int) (w : World) (h : Ar.costI z = 0) : Calls Tryd.prog 13 #[v, .int .i64 z] w fun e w' => e = .returned (.tuple #[.int .i64 0, .int .i64 3]) ∧ w = w' := by
  have hc := cost_any z w
  rw [h] at hc
  have HC := Lib.hid hc
  clear hc h
  go_enter Tryd.func13, Tryd.ntmps13
  go_wp2_with (go_at_call 26; (refine HC.out.mono ?_); rintro e w' ⟨rfl, rfl⟩)
  go_ret2
  exact ⟨rfl, rfl⟩
set_option maxHeartbeats 2000000 in
theorem alloc_full (A : Nat) (L : Loc) (S : Ar.St) (f : Nat → Prop) (n cn : Nat) (w : World) (hA : ArE A L S f w) (hs : Ar.Sane S) (hn : n ≤ 4096) (hc : Ar.cost n = cn) (hl : S.mem.length - S.used < cn) : Calls Tryd.prog 13 #[.pointer (some ⟨A, 0, none⟩), .int .i64 (n : Int)] w fun e w' => e = .returned (.tuple #[.int .i64 0, .int .i64 4]) ∧ w = w' := by
  have hg := Ar.cost_ge n hn
  have h16 : 16 ≤ cn := by omega
  have hcm : cn ≤ 8192 := by omega
  have HC := Lib.hid hc
  have HA := Lib.hid hA
  obtain ⟨lf, hlf⟩ : ∃ lf, S.mem.length - S.used = lf := ⟨_, rfl⟩
  have hll := left_any A L S f w hA hs.mem hs.used
  rw [hlf] at hll hl
  have HLL := Lib.hid hll
  have hne : ((cn : Int) == 0) = false := by rw [beq_eq_false_iff_ne]; omega
  clear hc hA hlf hll hg
  go_enter Tryd.func13, Tryd.ntmps13
  go_wp2_with (first
    | (go_at_call 26; (with_reducible refine (cost_at n cn _ hn HC.out).mono ?_); rintro e w' ⟨rfl, rfl⟩)
    | (go_at_call 25; (with_reducible refine HLL.out.mono ?_); rintro e w' ⟨rfl, rfl⟩))
  go_ret2
  exact ⟨rfl, rfl⟩
set_option maxHeartbeats 2000000 in
theorem alloc_nil (n cn : Nat) (w : World) (hn : n ≤ 4096) (hc : Ar.cost n = cn) : Calls Tryd.prog 13 #[.pointer none, .int .i64 (n : Int)] w fun e w' => e = .returned (.tuple #[.int .i64 0, .int .i64 4]) ∧ w = w' := by
  have hg := Ar.cost_ge n hn
  have h16 : 16 ≤ cn := by omega
  have HC := Lib.hid hc
  have hne : ((cn : Int) == 0) = false := by rw [beq_eq_false_iff_ne]; omega
  have hp : 0 < cn := by omega
  clear hc hg
  go_enter Tryd.func13, Tryd.ntmps13
  go_wp2_with (first
    | (go_at_call 26; (with_reducible refine (cost_at n cn _ hn HC.out).mono ?_); rintro e w' ⟨rfl, rfl⟩)
    | (go_at_call 25; (with_reducible refine (left_nil _).mono ?_); rintro e w' ⟨rfl, rfl⟩))
  go_ret2
  exact ⟨rfl, rfl⟩
theorem settle_len {S : Ar.St} {a h n : Nat} (hn : n ≤ 4096) (h1 : a + Ar.cost n ≤ S.mem.length) (h3 : Ar.cost n < (Ar.headAt S.mem a).size → 16 ≤ (Ar.headAt S.mem a).size - Ar.cost n ∧ a + (Ar.headAt S.mem a).size ≤ S.mem.length ∧ (a + (Ar.headAt S.mem a).size) % 16 = 0) : (Ar.settle S a h n).mem.length = S.mem.length := by
  have hg := Ar.cost_ge n hn
  have e1 : (Ar.put (Ar.putHd S.mem a ⟨false, h, n, (Ar.headAt S.mem a).ahead⟩) (a + 8) (Ar.zeros n)).length = S.mem.length := by
    have e0 := Ar.putHd_len S.mem a ⟨false, h, n, (Ar.headAt S.mem a).ahead⟩ (by omega)
    rw [Ar.put_len _ _ _ (by rw [e0]; simp [Ar.zeros]; omega), e0]
  unfold Ar.settle
  simp only
  split
  · rename_i hlt
    obtain ⟨a1, a2, a3⟩ := h3 hlt
    refine (Ar.putFree_len _ _ _ _ a1 ?_ ?_).trans e1
    · show a + Ar.cost n + _ ≤ (Ar.put _ _ _).length
      rw [e1]; omega
    · have : a + Ar.cost n + ((Ar.headAt S.mem a).size - Ar.cost n) = a + (Ar.headAt S.mem a).size := by omega
      rw [this]; exact a3
  · exact e1
theorem settle_used (S : Ar.St) (a h n : Nat) : (Ar.settle S a h n).used = S.used := by
  have h1 : (Ar.takeFree S a).used = S.used := by
    unfold Ar.takeFree
    split
    · rfl
    · split <;> rfl
  unfold Ar.settle
  simp only
  split
  · exact h1
  · exact h1
set_option maxHeartbeats 8000000 in
theorem alloc_any (A : Nat) (L : Loc) (S : Ar.St) (pcs : List Ar.Pc) (f : Nat → Prop) (n cn : Nat) (w : World) (hA : ArE A L S f w) (I : Ar.Inv S pcs) (hn : n ≤ 4096) (hc : Ar.cost n = cn) (hl : cn ≤ S.mem.length - S.used) (hT : TabOk w) (hG : ¬ f 0) :
    Calls Tryd.prog 13 #[.pointer (some ⟨A, 0, none⟩), .int .i64 (n : Int)] w (AllocRet A S pcs n f w) := by
  have hs := I.sane
  have hg := Ar.cost_ge n hn
  have h16 : 16 ≤ cn := by omega
  have hcm : cn ≤ 8192 := by omega
  have hroom := room_any A L S pcs f n cn w hA I hn hc (by omega)
  unfold RoomRet at hroom
  have HRM := Lib.hid hroom
  have HC := Lib.hid hc
  obtain ⟨lf, hlf⟩ : ∃ lf, S.mem.length - S.used = lf := ⟨_, rfl⟩
  have hll := left_any A L S f w hA hs.mem hs.used
  have HLE := Lib.hid hl
  rw [hlf] at hll hl
  have HLL := Lib.hid hll
  have hne : ((cn : Int) == 0) = false := by rw [beq_eq_false_iff_ne]; omega
  have hml := hs.mem
  have hlf2 : lf ≤ 1048576 := by omega
  have HI := Lib.hid I
  clear hA hlf hll hroom hc hg I
  go_enter Tryd.func13, Tryd.ntmps13
  go_wp2_with (first
    | (go_at_call 26; (with_reducible refine (cost_at n cn _ hn HC.out).mono ?_); rintro e w' ⟨rfl, rfl⟩)
    | (go_at_call 25; (with_reducible refine HLL.out.mono ?_); rintro e w' ⟨rfl, rfl⟩)
    | (go_at_call 33; (refine HRM.out.mono ?_); rintro e w1 ⟨L1, S1, xs, p, ys, rfl, hA1, I1, hb1, hm1, hf1, hp1⟩; refine Hid.out ?_))
  refine Lib.hid ?_
  have hu1 : S1.used = S.used := by rw [I1.used, hb1, HI.out.used]
  have hleft1 : 16 ≤ S1.mem.length - S1.used := by rw [hm1, hu1]; have := HLE.out; omega
  obtain ⟨l, l1, l2, l3, l4⟩ := I1.handle hleft1
  have hs1 := I1.sane
  have hend := alloc_end (A := A) (L' := L1) (L2 := L1) (S := S) (pcs := pcs) (f := f) (w := w) (w1 := w1) I1 hb1 hm1 hf1 hp1 hn l1 l3 l4
  obtain ⟨⟨y1, y2, y3, y4, y5, y6, y7, y8, y9⟩, hE⟩ := hend
  have hn1 := (Ar.nextH_spec I1.tab l1 l3 l4).1
  have htl := I1.tab.lim
  have hlim1 := I1.lim
  have hus1 := hs1.used
  have hlen1 : (Ar.settle (Ar.takeH S1 l (Ar.total xs)) (Ar.total xs) (Ar.nextH S1 l + 1) n).mem.length = S.mem.length := by
    rw [settle_len hn (by show Ar.total xs + Ar.cost n ≤ S1.mem.length; omega) (fun hlt => by
      have e : Ar.headAt (Ar.takeH S1 l (Ar.total xs)).mem (Ar.total xs) = p.hd (Ar.lastT 0 xs) := y2
      rw [e] at hlt ⊢
      have e2 : (p.hd (Ar.lastT 0 xs)).size = p.takes := y4
      rw [e2] at hlt ⊢
      have hc2 := Ar.cost_ge n hn
      have hp2 := I1.ok p (by simp)
      have := hp2.m16
      exact ⟨by omega, y3, y5⟩)]
    exact hm1
  have HE := Lib.hid (fun L' w' h => hE L' w' h hlen1)
  have HTK : Hid (∀ (w2 : World) (g : Nat → Prop), ArE A L1 S1 g w2 → TabOk w2 → ¬ g 0 → Calls Tryd.prog 34 #[.pointer (some ⟨A, 2, none⟩), .int .i64 (Ar.total xs : Int)] w2 fun e w' => e = .returned (.int .i64 ((Ar.nextH S1 l + 1 : Nat) : Int)) ∧ Trn g w2 w' ∧ ArE A L1 (Ar.takeH S1 l (Ar.total xs)) g w') := Lib.hid (fun w2 g hA2 hT2 hG2 => take_any A L1 S1 g l (Ar.total xs) w2 hA2 l1 l2 (fun j _ h => l3 j h) l4 hs1.pl hs1.plus (by omega) hT2 hG2)
  have HST := Lib.hid (fun (w2 : World) (g : Nat → Prop) (hA2 : ArE A L1 (Ar.takeH S1 l (Ar.total xs)) g w2) => settle_any A L1 (Ar.takeH S1 l (Ar.total xs)) g (Ar.total xs) (Ar.nextH S1 l + 1) n w2 hA2 hlim1 y1 (by show (Ar.headAt S1.mem _).free = true; rw [y2]; exact hf1) hn (by omega) (by show Ar.total xs + Ar.cost n ≤ S1.mem.length; omega) (by show Ar.cost n ≤ (Ar.headAt S1.mem _).size; rw [y2]; show Ar.cost n ≤ p.size; rw [y4]; exact hp1) (by
    intro hlt
    have e : Ar.headAt (Ar.takeH S1 l (Ar.total xs)).mem (Ar.total xs) = p.hd (Ar.lastT 0 xs) := y2
    rw [e] at hlt ⊢
    have e2 : (p.hd (Ar.lastT 0 xs)).size = p.takes := y4
    rw [e2] at hlt ⊢
    have hc2 := Ar.cost_ge n hn
    have hp2 := I1.ok p (by simp)
    have := hp2.m16
    exact ⟨by omega, y3, y5⟩) (by
    have e : Ar.headAt (Ar.takeH S1 l (Ar.total xs)).mem (Ar.total xs) = p.hd (Ar.lastT 0 xs) := y2
    rw [e]; exact y6) (by show S1.nd.length < 200000; have := I1.nd; omega) y7 y8 (by omega))
  have HA1 := Lib.hid hA1
  have hsu : (Ar.settle (Ar.takeH S1 l (Ar.total xs)) (Ar.total xs) (Ar.nextH S1 l + 1) n).used = S1.used := settle_used ..
  have HSU := Lib.hid hsu
  have hT1 := hT.trn HA1.out.trn hG
  have HT1 := Lib.hid hT1
  have hG1 : ¬ five A L1 0 := fun e => by
    have h1 := five_of HA1.out.ar e
    rcases h1 with h1 | h1
    · exact hG h1
    · have := cell_lt (hT 0 (by decide)); simp at this; omega
  clear hE hA1 hsu y1 y2 y3 y4 y5 y6 y7 y8 y9 l2 l3 hm1 hb1 I1 hT hT1 hlen1 hp1 hleft1 hu1 l1 l4
  generalize Ar.takeH S1 l (Ar.total xs) = T1 at *
  generalize Ar.nextH S1 l = k at *
  generalize Ar.total xs = V at *
  generalize Ar.settle T1 V (k + 1) n = T2 at *
  generalize S1.used = u at *
  rw [HC.out] at HE
  go_wp2_with (first
    | (go_at_call 34; (refine (HTK.out _ _ HA1.out.ar.tight HT1.out hG1).mono ?_); rintro e w2 ⟨rfl, ht2, hA2⟩; have HA2 := Lib.hid (HA1.out.call ht2 hA2); clear ht2 hA2)
    | (go_at_call 35; (refine (HST.out _ _ HA2.out.ar.tight).mono ?_); rintro e w3 ⟨rfl, L3, hA3⟩; have HA3 := Lib.hid (HA2.out.callR hA3); clear hA3; refine Hid.out ?_))
  refine Lib.hid ?_
  have y3 := HA3.out.ar.cells.2.1
  have f3 := HA3.out.ar.box.frozen 1
  rw [HSU.out] at y3
  unfold encI at y3
  go_wp2
  clear y3 f3
  have HA4 := Lib.hid (HA3.out.call (Trn.set HA3.out.ar.box (.inl rfl) 1 (encI (u + cn))) (HA3.out.ar.tight.setBox (S' := { T2 with used := u + cn }) 1 (encI (u + cn)) rfl rfl rfl rfl rfl))
  rw [show encI (u + cn) = .int .i64 ((u : Int) + (cn : Int)) by unfold encI; rw [Int.natCast_add]] at HA4
  generalize World.setCell w3 _ _ = W5 at HA4 ⊢
  go_ret2
  exact HE.out _ _ HA4.out
end Go.Proofs.YtkndbldjablhoaaDoor
