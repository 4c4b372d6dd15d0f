/- a name is there once, however often it is added, in whatever letters, and goes with its last use
   Conditions: those of the row and of its card, none beside. -/
import Derived.Laws.BitsAllLaws
import Derived.Deep.QuietTactic
import Derived.Deep.RegionWith
import Derived.BigRegion
import Derived.StillTailTactics
import Derived.Test.YtbmppnfliiiobaaDoorJB15
import Derived.Test.YtbmppnfliiiobaaDoorJB17
import Derived.Test.YtbmppnfliiiobaaDoorJB19
/- The arena's functions at a block that is known. -/
set_option maxRecDepth 100000
namespace Go.Proofs.YtbmppnfliiiobaaDoor
open Go.RowKit Go.Shelf
theorem srt_mem {L : List Bl} (h : L.Pairwise (fun x y => x.1 < y.1)) {b c : Bl} (hb : b ∈ L) (hc : c ∈ L) (e : b.1 = c.1) : b = c := by
  obtain ⟨i, hi, rfl⟩ := List.mem_iff_getElem.1 hb
  obtain ⟨j, hj, rfl⟩ := List.mem_iff_getElem.1 hc
  rw [List.pairwise_iff_getElem] at h
  rcases Nat.lt_trichotomy i j with hlt | heq | hgt
  · have := h i j hi hj hlt; omega
  · subst heq; rfl
  · have := h j i hj hi hgt; omega
theorem alloc_ok (x : Nat → Prop) (A B : Nat) (L : List Bl) (n0 : Nat) (z : Int) (k : Nat) (w : World) (hz : z = (k : Int)) (h : HX x A B L n0 w) (hk : k ≤ 4096) (hc : sumC L + Ar.cost k ≤ B) :
    Calls Tryd.prog 17 #[.pointer (some ⟨A, 0, none⟩), .int .i64 z] w fun e w' => ∃ L1 L2, L = L1 ++ L2 ∧ Least L1 L2 ∧ e = .returned (.tuple #[.int .i64 ((L1.length + 1 : Nat) : Int), .int .i64 0]) ∧ LX x A B (L1 ++ (L1.length + 1, Ar.zeros k) :: L2) n0 w w' := by
  subst hz
  have hci : Ar.costI (k : Int) = Ar.cost k := Ar.costI_nat hk
  have hcg := Ar.cost_ge k hk
  refine (alloc_x x A B L n0 (k : Int) w h).mono fun e w' hk' => ?_
  rcases hk' with ⟨k1, _⟩ | ⟨_, k1, _⟩ | ⟨_, _, i, L1, L2, hi, _, rfl, hl, he, hL⟩
  · omega
  · omega
  · obtain rfl : k = i := by omega
    exact ⟨L1, L2, rfl, hl, he, hL⟩
theorem alloc_no (x : Nat → Prop) (A B : Nat) (L : List Bl) (n0 : Nat) (z : Int) (k : Nat) (w : World) (hz : z = (k : Int)) (h : HX x A B L n0 w) (hk : k ≤ 4096) (hc : B < sumC L + Ar.cost k) :
    Calls Tryd.prog 17 #[.pointer (some ⟨A, 0, none⟩), .int .i64 z] w fun e w' => e = .returned (.tuple #[.int .i64 0, .int .i64 4]) ∧ w = w' := by
  subst hz
  have hci : Ar.costI (k : Int) = Ar.cost k := Ar.costI_nat hk
  have hcg := Ar.cost_ge k hk
  refine (alloc_x x A B L n0 (k : Int) w h).mono fun e w' hk' => ?_
  rcases hk' with ⟨k1, _⟩ | ⟨_, _, he, hw⟩ | ⟨_, k1, _⟩
  · omega
  · exact ⟨he, hw⟩
  · omega
theorem free_ok (x : Nat → Prop) (A B : Nat) (L1 L2 : List Bl) (b : Bl) (n0 : Nat) (z : Int) (w : World) (hz : z = (b.1 : Int)) (h : HX x A B (L1 ++ b :: L2) n0 w) :
    Calls Tryd.prog 19 #[.pointer (some ⟨A, 0, none⟩), .int .i64 z] w fun e w' => e = .returned (.int .i64 0) ∧ LX x A B (L1 ++ L2) n0 w w' := by
  subst hz
  refine (free_x x A B _ n0 _ w h).mono fun e w' hk => ?_
  rcases hk with ⟨k, _⟩ | ⟨M1, c, M2, e1, e2, he, hL⟩
  · exact absurd rfl (k b (by simp))
  · obtain ⟨rfl, _, rfl⟩ := srt_uniq h.each.1 e1 (by omega)
    exact ⟨he, hL⟩
theorem free_none' (x : Nat → Prop) (A B : Nat) (L : List Bl) (n0 : Nat) (z : Int) (w : World) (hz : ∀ b ∈ L, (b.1 : Int) ≠ z) (h : HX x A B L n0 w) :
    Calls Tryd.prog 19 #[.pointer (some ⟨A, 0, none⟩), .int .i64 z] w fun e w' => e = .returned (.int .i64 5) ∧ LX x A B L n0 w w' := by
  refine (free_x x A B _ n0 _ w h).mono fun e w' hk => ?_
  rcases hk with ⟨_, he, hL⟩ | ⟨M1, c, M2, rfl, e2, _⟩
  · exact ⟨he, hL⟩
  · exact absurd e2 (hz c (by simp))
theorem read_ok (x : Nat → Prop) (A B : Nat) (L : List Bl) (b : Bl) (n0 : Nat) (z a m : Int) (at_ n : Nat) (w : World) (hz : z = (b.1 : Int)) (ha : a = (at_ : Int)) (hm : m = (n : Int)) (hb : b ∈ L) (h : HX x A B L n0 w) (hw : at_ + n ≤ b.2.length) :
    Calls Tryd.prog 21 #[.pointer (some ⟨A, 0, none⟩), .int .i64 z, .int .i64 a, .int .i64 m] w fun e w' => ∃ v, e = .returned (.tuple #[v, .int .i64 0]) ∧ w'.ownsRow w.heap.size 5 1 v n (((b.2.drop at_).take n).map encB) ∧ LX x A B L n0 w w' ∧ Below w.heap.size w w' := by
  subst hz ha hm
  have hl := (h.each.2 b hb).2
  refine (read_x x A B L n0 _ _ _ w h (by omega) (by omega) (by omega) (by omega)).mono fun e w' hk => ?_
  obtain ⟨hL, hbw, hk⟩ := hk
  rcases hk with ⟨k, _⟩ | ⟨c, hc, e1, hk⟩
  · exact absurd rfl (k b hb)
  · obtain rfl := srt_mem h.each.1 hb hc (by omega)
    rcases hk with ⟨k, _⟩ | ⟨_, v, l, rfl, he, hr⟩
    · exact absurd ⟨by omega, by omega, by omega, by omega⟩ k
    · simp only [Int.toNat_natCast] at hr
      have hlen : ((b.2.drop at_).take n).length = n := by simp; omega
      rw [hlen] at hr
      exact ⟨v, he, hr, hL, hbw⟩
theorem read_no (x : Nat → Prop) (A B : Nat) (L : List Bl) (b : Bl) (n0 : Nat) (z a m : Int) (w : World) (hz : z = (b.1 : Int)) (hb : b ∈ L) (h : HX x A B L n0 w) (hw : ¬ Within b.2.length a m)
    (hI1 : -9223372036854775808 ≤ a) (hI2 : a ≤ 9223372036854775807) (hI3 : -9223372036854775808 ≤ m) (hI4 : m ≤ 9223372036854775807) :
    Calls Tryd.prog 21 #[.pointer (some ⟨A, 0, none⟩), .int .i64 z, .int .i64 a, .int .i64 m] w fun e w' => e = .returned (.tuple #[.slice none 0 0, .int .i64 1]) ∧ LX x A B L n0 w w' ∧ Below w.heap.size w w' := by
  subst hz
  refine (read_x x A B L n0 _ _ _ w h hI1 hI2 hI3 hI4).mono fun e w' hk => ?_
  obtain ⟨hL, hbw, hk⟩ := hk
  rcases hk with ⟨k, _⟩ | ⟨c, hc, e1, hk⟩
  · exact absurd rfl (k b hb)
  · obtain rfl := srt_mem h.each.1 hb hc (by omega)
    rcases hk with ⟨_, he⟩ | ⟨k, _⟩
    · exact ⟨he, hL, hbw⟩
    · exact absurd k hw
theorem write_ok (x : Nat → Prop) (A B : Nat) (L1 L2 : List Bl) (b : Bl) (n0 : Nat) (z a : Int) (at_ : Nat) (v : Value) (l : List UInt8) (w : World) (hz : z = (b.1 : Int)) (ha : a = (at_ : Int)) (h : HX x A B (L1 ++ b :: L2) n0 w) (hv : RdB v l w) (hw : at_ + l.length ≤ b.2.length) :
    Calls Tryd.prog 23 #[.pointer (some ⟨A, 0, none⟩), .int .i64 z, .int .i64 a, v] w fun e w' => e = .returned (.int .i64 0) ∧ LX x A B (L1 ++ (b.1, Ar.put b.2 at_ l) :: L2) n0 w w' := by
  subst hz ha
  have hl := (h.each.2 b (by simp)).2
  refine (write_x x A B _ n0 _ _ v l w h hv (by omega) (by omega) (by omega)).mono fun e w' hk => ?_
  rcases hk with ⟨k, _⟩ | ⟨M1, c, M2, e1, e2, hk⟩
  · exact absurd rfl (k b (by simp))
  · obtain ⟨rfl, rfl, rfl⟩ := srt_uniq h.each.1 e1 (by omega)
    rcases hk with ⟨k, _⟩ | ⟨_, he, hL⟩
    · exact absurd ⟨by omega, by omega, by omega, by omega⟩ k
    · rw [Int.toNat_natCast] at hL
      exact ⟨he, hL⟩
theorem write_no (x : Nat → Prop) (A B : Nat) (L : List Bl) (b : Bl) (n0 : Nat) (z a : Int) (v : Value) (l : List UInt8) (w : World) (hz : z = (b.1 : Int)) (hb : b ∈ L) (h : HX x A B L n0 w) (hv : RdB v l w) (hl : l.length ≤ 1048576) (hw : ¬ Within b.2.length a l.length)
    (hI1 : -9223372036854775808 ≤ a) (hI2 : a ≤ 9223372036854775807) :
    Calls Tryd.prog 23 #[.pointer (some ⟨A, 0, none⟩), .int .i64 z, .int .i64 a, v] w fun e w' => e = .returned (.int .i64 1) ∧ LX x A B L n0 w w' := by
  subst hz
  refine (write_x x A B _ n0 _ _ v l w h hv hl hI1 hI2).mono fun e w' hk => ?_
  rcases hk with ⟨k, _⟩ | ⟨M1, c, M2, rfl, e2, hk⟩
  · exact absurd rfl (k b hb)
  · obtain rfl := srt_mem h.each.1 hb (show c ∈ M1 ++ c :: M2 by simp) (by omega)
    rcases hk with ⟨_, he, hL⟩ | ⟨k, _⟩
    · exact ⟨he, hL⟩
    · exact absurd k hw
theorem write_none (x : Nat → Prop) (A B : Nat) (L : List Bl) (n0 : Nat) (z a : Int) (v : Value) (l : List UInt8) (w : World) (hz : ∀ b ∈ L, (b.1 : Int) ≠ z) (h : HX x A B L n0 w) (hv : RdB v l w) (hl : l.length ≤ 1048576)
    (hI1 : -9223372036854775808 ≤ a) (hI2 : a ≤ 9223372036854775807) :
    Calls Tryd.prog 23 #[.pointer (some ⟨A, 0, none⟩), .int .i64 z, .int .i64 a, v] w fun e w' => e = .returned (.int .i64 5) ∧ LX x A B L n0 w w' := by
  refine (write_x x A B _ n0 _ _ v l w h hv hl hI1 hI2).mono fun e w' hk => ?_
  rcases hk with ⟨_, he, hL⟩ | ⟨M1, c, M2, rfl, e2, _⟩
  · exact ⟨he, hL⟩
  · exact absurd e2 (hz c (by simp))
theorem size_ok (x : Nat → Prop) (A B : Nat) (L : List Bl) (b : Bl) (n0 : Nat) (z : Int) (w : World) (hz : z = (b.1 : Int)) (hb : b ∈ L) (h : HX x A B L n0 w) :
    Calls Tryd.prog 32 #[.pointer (some ⟨A, 0, none⟩), .int .i64 z] w fun e w' => e = .returned (.tuple #[.int .i64 (b.2.length : Int), .bool true]) ∧ LX x A B L n0 w w' ∧ Below w.heap.size w w' := by
  subst hz
  refine (size_x x A B L n0 _ w h).mono fun e w' ⟨hL, hbw, hk⟩ => ?_
  rcases hk with ⟨k, _⟩ | ⟨c, hc, e1, he⟩
  · exact absurd rfl (k b hb)
  · obtain rfl := srt_mem h.each.1 hb hc (by omega)
    exact ⟨he, hL, hbw⟩
theorem size_none' (x : Nat → Prop) (A B : Nat) (L : List Bl) (n0 : Nat) (z : Int) (w : World) (hz : ∀ b ∈ L, (b.1 : Int) ≠ z) (h : HX x A B L n0 w) :
    Calls Tryd.prog 32 #[.pointer (some ⟨A, 0, none⟩), .int .i64 z] w fun e w' => e = .returned (.tuple #[.int .i64 0, .bool false]) ∧ LX x A B L n0 w w' ∧ Below w.heap.size w w' := by
  refine (size_x x A B L n0 _ w h).mono fun e w' ⟨hL, hbw, hk⟩ => ?_
  rcases hk with ⟨_, he⟩ | ⟨c, hc, e1, _⟩
  · exact ⟨he, hL, hbw⟩
  · exact absurd e1 (hz c hc)
theorem read_none (x : Nat → Prop) (A B : Nat) (L : List Bl) (n0 : Nat) (z a m : Int) (w : World) (hz : ∀ b ∈ L, (b.1 : Int) ≠ z) (h : HX x A B L n0 w)
    (hI1 : -9223372036854775808 ≤ a) (hI2 : a ≤ 9223372036854775807) (hI3 : -9223372036854775808 ≤ m) (hI4 : m ≤ 9223372036854775807) :
    Calls Tryd.prog 21 #[.pointer (some ⟨A, 0, none⟩), .int .i64 z, .int .i64 a, .int .i64 m] w fun e w' => e = .returned (.tuple #[.slice none 0 0, .int .i64 5]) ∧ LX x A B L n0 w w' ∧ Below w.heap.size w w' := by
  refine (read_x x A B L n0 _ _ _ w h hI1 hI2 hI3 hI4).mono fun e w' ⟨hL, hbw, hk⟩ => ?_
  rcases hk with ⟨_, he⟩ | ⟨c, hc, e1, _⟩
  · exact ⟨he, hL, hbw⟩
  · exact absurd e1 (hz c hc)
end Go.Proofs.YtbmppnfliiiobaaDoor

/- Package intern: the hash of a name, its chain. -/
set_option maxRecDepth 100000
namespace Go.Proofs.YtbmppnfliiiobaaDoor
open Go.RowKit Go.Shelf
attribute [local go_sem] Oper.semAt_some
/-- FNV-1a, step by step, as a number of 32 bits. -/
def hstep (h : Nat) (c : UInt8) : Nat := (((h ^^^ c.toNat) * 16777619) % 4294967296)
def hashN (l : List UInt8) : Nat := l.foldl hstep 2166136261
theorem hashN_snoc (l : List UInt8) (c : UInt8) : hashN (l ++ [c]) = hstep (hashN l) c := by unfold hashN; rw [List.foldl_append, List.foldl_cons, List.foldl_nil]
theorem fnv_lt : (2166136261 : Nat) < 4294967296 := by omega
theorem fnv_nil (l : List UInt8) : 2166136261 = hashN (l.take 0) := by unfold hashN; rw [List.take_zero, List.foldl_nil]
theorem hstep_int (x : Nat) (c : UInt8) : ((x ^^^ c.toNat : Nat) : Int) * 16777619 % 4294967296 = (hstep x c : Int) := by unfold hstep; rw [Int.natCast_emod, Int.natCast_mul]; rfl
theorem hstep_lt (h : Nat) (c : UInt8) : hstep h c < 4294967296 := Nat.mod_lt _ (by omega)
theorem foldl_hlt : ∀ (l : List UInt8) (h : Nat), h < 4294967296 → l.foldl hstep h < 4294967296
  | [], _, h => h
  | c :: l, h, _ => foldl_hlt l _ (hstep_lt h c)
theorem hashN_lt (l : List UInt8) : hashN l < 4294967296 := by unfold hashN; exact foldl_hlt l _ (by omega)
theorem take_snoc (l : List UInt8) (k : Nat) (h : k < l.length) : l.take (k + 1) = l.take k ++ [l[k]] := by rw [List.take_succ_eq_append_getElem h]
theorem xor_u32 (a b : Nat) (ha : a < 4294967296) (hb : b < 4294967296) : bits .xor .u32 (a : Int) (b : Int) = ((a ^^^ b : Nat) : Int) := by
  have hx : a ^^^ b < 2 ^ 32 := Nat.xor_lt_two_pow (by omega) (by omega)
  have h1 : (BitVec.ofInt 32 (a : Int)).toNat = a := by
    rw [BitVec.ofInt_natCast, BitVec.toNat_ofNat]; exact Nat.mod_eq_of_lt (by omega)
  have h2 : (BitVec.ofInt 32 (b : Int)).toNat = b := by
    rw [BitVec.ofInt_natCast, BitVec.toNat_ofNat]; exact Nat.mod_eq_of_lt (by omega)
  show IntKind.u32.wrap ((BitVec.ofInt 32 (a : Int) ^^^ BitVec.ofInt 32 (b : Int)).toNat : Int) = _
  rw [BitVec.toNat_xor, h1, h2]
  show (((a ^^^ b : Nat) : Int) % (2 ^ 32 : Int)) = _
  omega
set_option maxHeartbeats 4000000 in
theorem hash_any (l : List UInt8) (w : World) (hl : l.length ≤ 1000000) : Calls Tryd.prog 106 #[.string ⟨l.toArray⟩] w fun e w' => e = .returned (.int .u32 (hashN l : Int)) ∧ w = w' := by
  go_enter Tryd.func106, Tryd.ntmps106
  go_wp2
  go_loop [3, 7] (fun h i => ∃ k x : Nat, k ≤ l.length ∧ i = .int .i64 (k : Int) ∧ h = .int .u32 (x : Int) ∧ x < 4294967296 ∧ Hid (x = hashN (l.take k))) (fun _ i => l.length + 1 - (intOf i).toNat)
  case atStart => exact ⟨0, 2166136261, Nat.zero_le _, rfl, rfl, fnv_lt, Lib.hid (fnv_nil l)⟩
  case round =>
    obtain ⟨k, x, hk, rfl, rfl, hx, HX⟩ := hrel
    by_cases hlt : k < l.length
    · have hc : ((⟨l.toArray⟩ : ByteArray)[k]'hlt) = l[k] := rfl
      have hcl := l[k].toNat_lt
      have hxor := xor_u32 x l[k].toNat hx (by omega)
      have HS := Lib.hid (show hstep x l[k] = hashN (l.take (k + 1)) by rw [take_snoc l k hlt, hashN_snoc, HX.out])
      go_wp2
      go_round
      case rel => exact ⟨k + 1, hstep x l[k], by omega, by go_num, congrArg (Value.int .u32) (hstep_int x l[k]), hstep_lt _ _, HS⟩
      case measure => simp [intOf]; omega
    · go_wp2
      go_ret
      exact ⟨ret_int (by rw [HX.out, List.take_of_length_le (by omega)]), rfl⟩
theorem wraps_i64 (n : Int) (h0 : 0 ≤ n) (h1 : n < 2 ^ 62) : IntKind.i64.wrap n = n := by rw [IntKind.wrap_i64]; omega
theorem or8 (x y : Int) (h0 : 0 ≤ x) (h1 : x % 256 = 0) (h2 : x < 1099511627776) (h3 : 0 ≤ y) (h4 : y < 256) : bits .or .i64 x y = x + y :=
  bits_join .i64 62 (by decide) wraps_i64 8 x y h0 h1 (by omega) h3 h4 (by omega)
theorem or16 (x y : Int) (h0 : 0 ≤ x) (h1 : x % 65536 = 0) (h2 : x < 1099511627776) (h3 : 0 ≤ y) (h4 : y < 65536) : bits .or .i64 x y = x + y :=
  bits_join .i64 62 (by decide) wraps_i64 16 x y h0 h1 (by omega) h3 h4 (by omega)
theorem or24 (x y : Int) (h0 : 0 ≤ x) (h1 : x % 16777216 = 0) (h2 : x < 1099511627776) (h3 : 0 ≤ y) (h4 : y < 16777216) : bits .or .i64 x y = x + y :=
  bits_join .i64 62 (by decide) wraps_i64 24 x y h0 h1 (by omega) h3 h4 (by omega)

def num4N (a b c d : UInt8) : Nat := a.toNat * 16777216 + b.toNat * 65536 + c.toNat * 256 + d.toNat
theorem num4_eq (a b c d : UInt8) : bits .or .i64 (bits .or .i64 (bits .or .i64 (wrap64 (wrap64 (a.toNat : Int) * 16777216)) (wrap64 (wrap64 (b.toNat : Int) * 65536))) (wrap64 (wrap64 (c.toNat : Int) * 256))) (wrap64 (d.toNat : Int)) = (num4N a b c d : Int) := by
  have ha := a.toNat_lt
  have hb := b.toNat_lt
  have hc := c.toNat_lt
  have hd := d.toNat_lt
  have e : ∀ z : Int, 0 ≤ z → z < 1099511627776 → wrap64 z = z := fun z h0 h1 => by unfold wrap64; omega
  rw [e (a.toNat : Int) (by omega) (by omega), e (b.toNat : Int) (by omega) (by omega), e (c.toNat : Int) (by omega) (by omega), e (d.toNat : Int) (by omega) (by omega)]
  rw [e _ (by omega) (by omega), e _ (by omega) (by omega), e _ (by omega) (by omega)]
  rw [or24 ((a.toNat : Int) * 16777216) ((b.toNat : Int) * 65536) (by omega) (by omega) (by omega) (by omega) (by omega), or16 ((a.toNat : Int) * 16777216 + (b.toNat : Int) * 65536) ((c.toNat : Int) * 256) (by omega) (by omega) (by omega) (by omega) (by omega), or8 _ _ (by omega) (by omega) (by omega) (by omega) (by omega)]
  unfold num4N
  omega


structure TB where
  A : Nat
  T : Nat
  F : Nat
/-- A table's box. -/
def tbBox (t : TB) (n c : Nat) : List Value := [.pointer (some ⟨t.A, 0, none⟩), .slice (some ⟨t.F, 0, none⟩) n n, encI c]
set_option maxHeartbeats 4000000 in
theorem chainOf_any (t : TB) (n c : Nat) (l : List UInt8) (w : World) (hb : Blk w t.T (tbBox t n c) 109) (hl : l.length ≤ 1000000) (hn : 1 ≤ n) (hn2 : n ≤ 1000000) :
    Calls Tryd.prog 99 #[.pointer (some ⟨t.T, 0, none⟩), .string ⟨l.toArray⟩] w fun e w' => e = .returned (.int .i64 ((hashN l % n : Nat) : Int)) ∧ Drew w w' := by
  obtain ⟨A, T, F⟩ := t
  have c1 := hb.cell (i := 1) rfl
  have hh := hashN_lt l
  have HH := Lib.hid (fun W => hash_any l W hl)
  obtain ⟨x, hx⟩ : ∃ x, hashN l = x := ⟨_, rfl⟩
  rw [hx] at hh HH ⊢
  clear hx hh
  have hw : IntKind.u32.wrap (n : Int) = (n : Int) := IntWalk.u32_in _ (by omega)
  have hne : ((n : Int) == 0) = false := by rw [beq_eq_false_iff_ne]; omega
  have hlt : x % n < n := Nat.mod_lt _ (by omega)
  go_enter Tryd.func99, Tryd.ntmps99
  go_wp2
  go_quiet ((go_at_call 106; exact Calls.quiet_of_same ((HH.out _).mono fun _ _ h => ⟨h.1, h.2.symm⟩)))
  go_wp2
  go_ret
  exact ⟨ret_int rfl, ⟨nq, rfl⟩⟩
end Go.Proofs.YtbmppnfliiiobaaDoor

/- Package intern: numbers of four bytes. -/
set_option maxRecDepth 100000
namespace Go.Proofs.YtbmppnfliiiobaaDoor
open Go.RowKit Go.Shelf
attribute [local go_sem] Oper.semAt_some
def dec4 : List UInt8 → Nat
  | a :: b :: c :: d :: _ => num4N a b c d
  | _ => 0
def b4 (n : Nat) : List UInt8 := [UInt8.ofNat (n / 16777216), UInt8.ofNat (n / 65536), UInt8.ofNat (n / 256), UInt8.ofNat n]
theorem b4_len (n : Nat) : (b4 n).length = 4 := rfl
theorem dec4_b4 (n : Nat) (r : List UInt8) (h : n < 4294967296) : dec4 (b4 n ++ r) = n := by
  show num4N (UInt8.ofNat (n / 16777216)) (UInt8.ofNat (n / 65536)) (UInt8.ofNat (n / 256)) (UInt8.ofNat n) = n
  unfold num4N
  simp only [UInt8.toNat_ofNat']
  omega
theorem rdB_four {v : Value} {a b c d : UInt8} {r : List UInt8} {W : World} (h : RdB v (a :: b :: c :: d :: r) W) : ∃ (B off n cap : Nat), v = .slice (some ⟨B, off, none⟩) (n + 4) cap ∧ W.cell? ⟨B, off, none⟩ = some (.int .u8 (a.toNat : Int)) ∧ W.cell? ⟨B, off + 1, none⟩ = some (.int .u8 (b.toNat : Int)) ∧ W.cell? ⟨B, off + 2, none⟩ = some (.int .u8 (c.toNat : Int)) ∧ W.cell? ⟨B, off + 3, none⟩ = some (.int .u8 (d.toNat : Int)) := by
  obtain ⟨ao, cap, rfl, hc⟩ := h.form
  obtain ⟨B, off, rfl, h0⟩ := hc 0 (by simp)
  obtain ⟨_, _, e1, h1⟩ := hc 1 (by simp)
  obtain ⟨_, _, e2, h2⟩ := hc 2 (by simp)
  obtain ⟨_, _, e3, h3⟩ := hc 3 (by simp)
  cases e1; cases e2; cases e3
  exact ⟨B, off, r.length, cap, rfl, h0, h1, h2, h3⟩
theorem num4_eq' (a b c d : UInt8) : bits .or .i64 (bits .or .i64 (bits .or .i64 ((a.toNat : Int) * 16777216) ((b.toNat : Int) * 65536)) ((c.toNat : Int) * 256)) (d.toNat : Int) = (num4N a b c d : Int) := by
  have ha := a.toNat_lt
  have hb := b.toNat_lt
  have hc := c.toNat_lt
  have hd := d.toNat_lt
  rw [or24 ((a.toNat : Int) * 16777216) ((b.toNat : Int) * 65536) (by omega) (by omega) (by omega) (by omega) (by omega), or16 ((a.toNat : Int) * 16777216 + (b.toNat : Int) * 65536) ((c.toNat : Int) * 256) (by omega) (by omega) (by omega) (by omega) (by omega), or8 _ _ (by omega) (by omega) (by omega) (by omega) (by omega)]
  unfold num4N
  omega
set_option maxHeartbeats 4000000 in
theorem four_any (v : Value) (l : List UInt8) (w : World) (h : RdB v l w) (hl : 4 ≤ l.length) : Calls Tryd.prog 107 #[v] w fun e w' => e = .returned (.int .i64 (dec4 l : Int)) ∧ Drew w w' := by
  obtain ⟨a, b, c, d, r, rfl⟩ : ∃ a b c d r, l = a :: b :: c :: d :: r := by
    match l, hl with
    | a :: b :: c :: d :: r, _ => exact ⟨a, b, c, d, r, rfl⟩
  obtain ⟨B, off, n, cap, rfl, h0, h1, h2, h3⟩ := rdB_four h
  clear h hl
  have ha := a.toNat_lt
  have hb := b.toNat_lt
  have hc := c.toNat_lt
  have hd := d.toNat_lt
  have l0 : 0 < n + 4 := by omega
  have l1 : 1 < n + 4 := by omega
  have l2 : 2 < n + 4 := by omega
  have l3 : 3 < n + 4 := by omega
  have m0 : (0 : Int) < (n : Int) + 4 := by omega
  have m1 : (1 : Int) < (n : Int) + 4 := by omega
  have m2 : (2 : Int) < (n : Int) + 4 := by omega
  have m3 : (3 : Int) < (n : Int) + 4 := by omega
  go_enter Tryd.func107, Tryd.ntmps107
  go_wp2
  go_quiet (fail)
  go_wp2
  go_ret
  exact ⟨ret_int (num4_eq' a b c d), ⟨nq, rfl⟩⟩
theorem infoByte' : (Tryd.prog.info? 5).map (fun i => (i.zero, i.size, i.bytes)) = some (some (.int .u8 0), 1, 1) := infoU8
/-- An append at its operation, of elements that were just built. -/
theorem wpList_apdB4 {w : World} {ops : Array Oper} {rest : List Oper} {o : Oper} {a : Act} {Q : Exit → Act → World → Prop} (hg : o.guard = none) (s z : Operand)
    (hop : o.op = Op.call { callee := Callee.builtin Builtin.append, args := #[s, z], argTypes := #[34, 34] }) {base : Nat} {v : Value} {l : List UInt8} (hs : a.eval s = v) (hown : OwnE encB 5 base v l w) (hl : l.length ≤ 900000) (hb : base ≤ w.heap.size) (ad : Addr) (m c : Nat) (news : List UInt8) (hm : news.length = m) (hm2 : m ≤ 10000) (hz : a.eval z = .slice (some ad) m c)
    (hc : ∀ j u, (news.map encB)[j]? = some u → w.cell? (ad.add j) = some u)
    (hK : ∀ v' w', OwnE encB 5 base v' (l ++ news) w' → Apd base v (l ≠ []) w w' → wpList Tryd.prog ops Q rest (a.put o.dst v') w') :
    wpList Tryd.prog ops Q (o :: rest) a w := by
  refine wpList_plain hg fun K hK' => ?_
  obtain ⟨v', w', hrun, r1, r2, _⟩ := run_apd (P := Tryd.prog) encB encB_one w base 34 o.type 5 (.int .u8 0) 1 Tryd.underlying34 infoByte' rfl v l hown ad m c news hm hc (by omega) (by omega) hb
  unfold Oper.wp
  simp [execOp, hop, resolve, invoke, builtin, hs, hz, hrun, Result.andThen]
  exact hK' _ _ (hK v' w' r1 r2)
theorem encB_mod (n : Nat) : encB (UInt8.ofNat n) = .int .u8 ((n : Int) % 256) := by
  unfold encB
  rw [UInt8.toNat_ofNat', Int.natCast_emod]
  rfl
theorem encB_div (n k : Nat) : encB (UInt8.ofNat (n / k)) = .int .u8 ((n : Int) / (k : Int) % 256) := by rw [encB_mod, Int.natCast_ediv]
theorem b4_enc (n : Nat) : (b4 n).map encB = [.int .u8 ((n : Int) / 16777216 % 256), .int .u8 ((n : Int) / 65536 % 256), .int .u8 ((n : Int) / 256 % 256), .int .u8 ((n : Int) % 256)] := by
  have e1 := encB_div n 16777216
  have e2 := encB_div n 65536
  have e3 := encB_div n 256
  have e4 := encB_mod n
  show [encB (UInt8.ofNat (n / 16777216)), encB (UInt8.ofNat (n / 65536)), encB (UInt8.ofNat (n / 256)), encB (UInt8.ofNat n)] = _
  rw [e1, e2, e3, e4]
  rfl
theorem own_shape' {base : Nat} {v : Value} {l : List UInt8} {w : World} (h : OwnE encB 5 base v l w) : ∃ ao n c, v = .slice ao n c := by
  rcases ownE_form h with ⟨rfl, _⟩ | ⟨g, cap, rfl⟩
  · exact ⟨none, 0, 0, rfl⟩
  · exact ⟨_, _, _, rfl⟩
def ApdRet (base : Nat) (v : Value) (l : List UInt8) (w : World) (e : Ending) (w' : World) : Prop := ∃ v', e = .returned v' ∧ OwnE encB 5 base v' l w' ∧ Below base w w' ∧ ∀ (k : Nat) (o : Obj), some k ≠ v.ownBlock → w.heap[k]? = some o → w'.heap[k]? = some o
set_option maxHeartbeats 4000000 in
theorem appendFour_any (base : Nat) (v : Value) (l : List UInt8) (n : Nat) (w : World) (hown : OwnE encB 5 base v l w) (hl : l.length ≤ 900000) (hb : base ≤ w.heap.size) (_hn : n < 4611686018427387904) :
    Calls Tryd.prog 101 #[v, .int .i64 (n : Int)] w (ApdRet base v (l ++ b4 n) w) := by
  have HO := Lib.hid (ownE_alloc hown (.cells #[.int .u8 ((n : Int) / 16777216 % 256), .int .u8 ((n : Int) / 65536 % 256), .int .u8 ((n : Int) / 256 % 256), .int .u8 ((n : Int) % 256)] 5))
  have HC := Lib.hid (fun j u (hj : ((b4 n).map encB)[j]? = some u) => cells_new w ((b4 n).map encB) 5 j u hj)
  have HBE := Lib.hid (b4_enc n)
  rw [HBE.out] at HC
  have hb2 : base ≤ (w.alloc (.cells #[.int .u8 ((n : Int) / 16777216 % 256), .int .u8 ((n : Int) / 65536 % 256), .int .u8 ((n : Int) / 256 % 256), .int .u8 ((n : Int) % 256)] 5)).heap.size := by rw [World.size_alloc]; exact Nat.le_succ_of_le hb
  have HB2 := Lib.hid hb2
  clear hown hb2
  have hsh : ∃ ao m c, v = .slice ao m c := by
    rcases ownE_form HO.out with ⟨rfl, _⟩ | ⟨g, cap, rfl⟩
    · exact ⟨none, 0, 0, rfl⟩
    · exact ⟨_, _, _, rfl⟩
  obtain ⟨ao, m, c, rfl⟩ := hsh
  go_enter Tryd.func101, Tryd.ntmps101
  go_wp2_with (at_builtin; refine wpList_apdB4 rfl _ _ rfl rfl HO.out hl HB2.out _ 4 4 (b4 n) rfl (by omega) rfl (by rw [HBE.out]; exact HC.out) ?_; intro v1 w1 h1 a1; obtain ⟨ao1, n1, c1, hv1⟩ := own_shape' h1; subst hv1; have H1 := Lib.hid h1; have A1 := Lib.hid a1; clear h1 a1)
  go_ret
  refine ⟨_, rfl, H1.out, ((Below.refl _ w).alloc hb _).trans A1.out.below, fun k o hk ho => A1.out.other k o hk ((Below.heap_alloc w _ k (Array.getElem?_eq_some_iff.1 ho).1).trans ho)⟩
end Go.Proofs.YtbmppnfliiiobaaDoor

/- Package intern: a block is written. -/
set_option maxRecDepth 100000
namespace Go.Proofs.YtbmppnfliiiobaaDoor
open Go.RowKit Go.Shelf
attribute [local go_sem] Oper.semAt_some
theorem wpList_apdS {w : World} {ops : Array Oper} {rest : List Oper} {o : Oper} {a : Act} {Q : Exit → Act → World → Prop} (hg : o.guard = none) (s z : Operand)
    (hop : o.op = Op.call { callee := Callee.builtin Builtin.append, args := #[s, z], argTypes := #[34, 9] }) {base : Nat} {v : Value} {l : List UInt8} (hs : a.eval s = v) (hown : OwnE encB 5 base v l w) (hb : base ≤ w.heap.size) (news : List UInt8) (hz : a.eval z = .string ⟨news.toArray⟩) (b1 : l.length + news.length ≤ 1000000)
    (hK : ∀ v' w', OwnE encB 5 base v' (l ++ news) w' → Below base w w' → wpList Tryd.prog ops Q rest (a.put o.dst v') w') :
    wpList Tryd.prog ops Q (o :: rest) a w := by
  obtain ⟨i, hi, hz0, hz1, hz2⟩ := info_parts infoByte'
  refine wpList_plain hg fun K hK' => ?_
  have hsz : (⟨news.toArray⟩ : ByteArray).size = news.length := by show news.toArray.size = _; simp
  obtain ⟨v', w', hrun, r1, r2, r3⟩ := Lib.run_append_own_string (P := Tryd.prog) w base 34 9 o.type 5 i Tryd.underlying34 Tryd.underlying9 hi hz0 hz1 hz2 v l.length (l.map encB) hown ⟨news.toArray⟩ (by rw [hsz]; exact Nat.le_trans b1 (by unfold maxLen; decide)) (by rw [hsz]; omega) hb
  rw [hsz, strCells_enc] at r1
  unfold Oper.wp
  simp [execOp, hop, resolve, invoke, builtin, hs, hz, hrun, Result.andThen]
  exact hK' _ _ (hK v' w' (by unfold OwnE; rw [List.map_append, List.length_append]; exact r1) ((Below.refl base w).grown r2 hb (fun k e => (World.ownsRow.lt hown k e).1)))
theorem own_ne {base : Nat} {v : Value} {l : List UInt8} {w : World} (h : OwnE encB 5 base v l w) {k : Nat} {c : List Value} {t : TypeId} (hb : Blk w k c t) (ht : t ≠ 5) : some k ≠ v.ownBlock := fun e => by
  rcases h.2 with ⟨rfl, _⟩ | ⟨g, cap, cur, rfl, _, h4, _⟩
  · cases e
  · have e1 : k = g := Option.some.inj e
    subst e1
    have := (show w.heap[k]? = _ from hb).symm.trans h4
    injection this with this
    injection this with _ this
    exact ht this
theorem ApdRet.blk {base : Nat} {v : Value} {l l' : List UInt8} {w w' : World} {e : Ending} (h : ApdRet base v l' w e w') (ho : OwnE encB 5 base v l w) {k : Nat} {c : List Value} {t : TypeId} (hb : Blk w k c t) (ht : t ≠ 5) : Blk w' k c t := by
  obtain ⟨v', _, _, _, h4⟩ := h
  exact h4 k _ (own_ne ho hb ht) hb
theorem put_all' (d l : List UInt8) (h : l.length = d.length) : Ar.put d 0 l = l := by
  unfold Ar.put
  rw [Nat.zero_add, h, List.drop_length]
  simp
def blkE (uses next : Nat) (name : List UInt8) : List UInt8 := b4 uses ++ b4 next ++ name
theorem blkE_len (uses next : Nat) (name : List UInt8) : (blkE uses next name).length = 8 + name.length := by simp [blkE, b4_len]; omega
set_option maxHeartbeats 8000000 in
theorem write_any (x : Nat → Prop) (t : TB) (B nn cnt : Nat) (L1 L2 : List Bl) (id : Nat) (d : List UInt8) (n0 uses next : Nat) (name : List UInt8) (z : Int) (w : World) (hz : z = (id : Int)) (h : HX x t.A B (L1 ++ (id, d) :: L2) n0 w) (hb : Blk w t.T (tbBox t nn cnt) 109) (hd : d.length = 8 + name.length) (hnl : name.length ≤ 4000) (hu : uses < 4611686018427387904) (hx : next < 4611686018427387904) :
    Calls Tryd.prog 75 #[.pointer (some ⟨t.T, 0, none⟩), .int .i64 z, .agg #[.int .i64 (uses : Int), .int .i64 (next : Int), .string ⟨name.toArray⟩]] w fun e w' => e = .returned (.tuple #[]) ∧ LX x t.A B (L1 ++ (id, blkE uses next name) :: L2) n0 w w' := by
  subst hz
  obtain ⟨A, T, F⟩ := t
  have hT := hb.lt
  have HB := Lib.hid hb
  have H := Lib.hid h
  have HD := Lib.hid hd
  clear h hb hd
  have hmk : ∃ cur : Array Value, (∀ W : World, (Instr.makeSlice 34 (.int .i64 0) (.int .i64 (8 + (name.length : Int)))).run Tryd.prog W = .ok (.slice (some ⟨W.heap.size, 0, none⟩) 0 (8 + name.length)) (W.alloc (.cells cur 5))) ∧ cur.size = (8 + name.length) * 1 := by
    obtain ⟨cur, h1, h2⟩ := run_make0_all (P := Tryd.prog) (z := .int .u8 0) Tryd.underlying34 infoByte' (8 + name.length) (by omega) (by omega) rfl
    refine ⟨cur, fun W => ?_, h2⟩
    have := h1 W
    rw [show ((8 + name.length : Nat) : Int) = 8 + (name.length : Int) by omega] at this
    exact this
  obtain ⟨cur, hmk, hcs⟩ := hmk
  have y0 := Blk.new w [.int .i64 (uses : Int), .int .i64 (next : Int), .string ⟨name.toArray⟩] 111
  have z2 := y0.cell (i := 2) rfl
  have b1 : Below w.heap.size w (w.alloc (.cells #[.int .i64 (uses : Int), .int .i64 (next : Int), .string ⟨name.toArray⟩] 111)) := (Below.refl _ w).alloc (Nat.le_refl _) _
  have s1 : (w.alloc (.cells #[.int .i64 (uses : Int), .int .i64 (next : Int), .string ⟨name.toArray⟩] 111)).heap.size = w.heap.size + 1 := World.size_alloc _ _
  have o2 := World.ownsRow_made (base := w.heap.size) (e := 5) (size := 1) (w.alloc (.cells #[.int .i64 (uses : Int), .int .i64 (next : Int), .string ⟨name.toArray⟩] 111)) cur (8 + name.length) (by rw [s1]; omega) (by unfold maxLen; omega) hcs
  rw [s1] at o2
  have y2 := y0.alloc (.cells cur 5)
  have b2 := b1.alloc (by rw [s1]; omega) (.cells cur 5)
  have HO2 := Lib.hid o2
  have HY2 := Lib.hid y2
  have HB2 := Lib.hid b2
  have hcs2 := Lib.hid hcs
  clear hcs o2 y2 b2 b1 s1
  go_enter Tryd.func75, Tryd.ntmps75
  go_upto_region 2 with (fail)
  generalize hW2 : World.alloc _ _ = W2
  replace HY2 : Hid (Blk W2 w.heap.size [.int .i64 (uses : Int), .int .i64 (next : Int), .string ⟨name.toArray⟩] 111) := by rw [← hW2]; exact HY2
  replace HB2 : Hid (Below w.heap.size w W2) := by rw [← hW2]; exact HB2
  have HO3 : Hid (OwnE encB 5 w.heap.size (.slice (some ⟨w.heap.size + 1, 0, none⟩) 0 (8 + name.length)) [] W2) := by rw [← hW2]; exact HO2
  clear hW2 HO2 hmk
  have y0 := HY2.out.cell (i := 0) rfl
  go_wp2_with fail
  refine (appendFour_any w.heap.size _ [] uses _ HO3.out (by simp) HB2.out.size hu).mono ?_
  rintro e w3 hr3
  have y3 := hr3.blk HO3.out HY2.out (by decide)
  obtain ⟨v3, rfl, o3, b3, _⟩ := hr3
  obtain ⟨ao3, n3, c3, hv3⟩ := own_shape' o3
  subst hv3
  have z1 := y3.cell (i := 1) rfl
  have HY3 := Lib.hid y3
  have HO4 := Lib.hid o3
  have HB3 := Lib.hid (HB2.out.trans b3)
  clear y3 o3 b3
  go_wp2_with fail
  refine (appendFour_any w.heap.size _ _ next _ HO4.out (by simp [b4_len]) HB3.out.size hx).mono ?_
  rintro e w4 hr4
  have y4 := hr4.blk HO4.out HY3.out (by decide)
  obtain ⟨v4, rfl, o4, b4', _⟩ := hr4
  obtain ⟨ao4, n4, c4, hv4⟩ := own_shape' o4
  subst hv4
  have z2 := y4.cell (i := 2) rfl
  have HO5 := Lib.hid o4
  have HB4 := Lib.hid (HB3.out.trans b4')
  clear y4 o4 b4'
  go_upto_region 5 with (at_builtin; refine wpList_apdS rfl _ _ rfl rfl HO5.out HB4.out.size name rfl (by simp [b4_len]; omega) ?_; intro v5 w5 o5 b5; obtain ⟨ao5, n5, c5, hv5⟩ := own_shape' o5; subst hv5; have HO6 := Lib.hid o5; have HB5 := Lib.hid (HB4.out.trans b5); have cT := (HB.out.kept (HB5.out.block _ hT)).cell (i := 0) rfl; clear o5 b5)
  go_wp2_with fail
  refine (write_ok x A B L1 L2 (id, d) n0 _ 0 0 _ (blkE uses next name) _ rfl rfl (H.out.after HB5.out) (RdB.own HO6.out) (by rw [blkE_len, HD.out]; omega)).mono ?_
  rintro e w6 ⟨rfl, h6⟩
  have H6 := Lib.hid h6
  clear h6
  go_wp2
  go_end0
  refine ⟨rfl, ?_⟩
  have h6 := H6.out
  rw [put_all' d _ (by rw [blkE_len, HD.out])] at h6
  exact (H.out.lx HB5.out).to h6
end Go.Proofs.YtbmppnfliiiobaaDoor

/- ArenaEdges: what its calls do. -/
set_option maxRecDepth 100000
namespace Go.Proofs.YtbmppnfliiiobaaDoor
open Go.RowKit Go.Shelf
attribute [local go_sem] Oper.semAt_some
theorem run_rd_any {v : Value} {l : List UInt8} {W : World} (h : RdB v l W) : (convert 34 9 v).run Tryd.prog W = .ok (.string ⟨l.toArray⟩) W := by
  cases l with
  | nil =>
    obtain ⟨ao, cap, rfl, _⟩ := h.form
    rw [run_convert_bytes_string W _ _ _ _ _ cap Tryd.underlying34 Tryd.underlying5 Tryd.underlying9]
    cases ao <;> simp [Conv.bytesToString, loadCells]
    all_goals rfl
  | cons c l => exact run_rd_str h (by simp)
/-- A block of the law's own beside its arena. -/
structure Mn (A B I : Nat) (cs : List Value) (T : TypeId) (L : List Bl) (w0 w : World) : Prop where
  hx : HX (fun k => k = I) A B L w0.heap.size w
  blk : Blk w I cs T
  bel : Below w0.heap.size w0 w
theorem Mn.to {A B I : Nat} {cs : List Value} {T : TypeId} {L L' : List Bl} {w0 w w' : World} (h : Mn A B I cs T L w0 w) (k : LX (fun k => k = I) A B L' w0.heap.size w w') : Mn A B I cs T L' w0 w' :=
  ⟨k.at_, k.blk rfl h.blk, h.bel.trans k.below⟩
theorem Mn.put {A B I : Nat} {cs : List Value} {T : TypeId} {L : List Bl} {w0 w : World} (h : Mn A B I cs T L w0 w) (i : Nat) (v : Value) : Mn A B I (cs.set i v) T L w0 (w.setCell ⟨I, i, none⟩ v) :=
  ⟨h.hx.put rfl i _, h.blk.set i _, h.bel.setCell (h.hx.xlow I rfl) _⟩
theorem Mn.after {A B I : Nat} {cs : List Value} {T : TypeId} {L : List Bl} {w0 w w' : World} (h : Mn A B I cs T L w0 w) (hb : Below w.heap.size w w') : Mn A B I cs T L w0 w' := h.to (h.hx.lx hb)
theorem Mn.start {A B : Nat} {L : List Bl} {w0 w : World} (h : HX (fun _ => False) A B L w0.heap.size w) (hb : Below w0.heap.size w0 w) (cs : List Value) (T : TypeId) : Mn A B w.heap.size cs T L w0 (w.alloc (.cells cs.toArray T)) :=
  ⟨(h.mine _).less (fun k e => .inr e), Blk.new w _ _, hb.trans ((Below.refl _ w).alloc h.low _)⟩
theorem rdB_block {W : World} {I : Nat} {l : List UInt8} {n c : Nat} (h : Blk W I (l.map encB) 5) (hn : n = l.length) : RdB (.slice (some ⟨I, 0, none⟩) n c) l W := by
  subst hn
  exact ⟨some ⟨I, 0, none⟩, c, rfl, fun j hj => ⟨I, 0, rfl, by rw [Nat.zero_add]; exact h.cell (encB_at hj)⟩⟩
theorem rdB_nil (W : World) (c : Nat) : RdB (.slice none 0 c) [] W := ⟨none, c, rfl, fun j hj => by cases hj⟩
def fitsB (n : Nat) (a : Int) (size : Nat) : Bool := decide (0 ≤ a ∧ a ≤ n ∧ (size : Int) ≤ n - a)
theorem fitsB_iff {n : Nat} {a : Int} {size : Nat} : fitsB n a size = true ↔ Within n a size := by
  unfold fitsB Within
  rw [decide_eq_true_eq]
  constructor
  · rintro ⟨h1, h2, h3⟩; exact ⟨h1, by omega, h2, h3⟩
  · rintro ⟨h1, h2, h3, h4⟩; exact ⟨h1, h3, h4⟩
def xsB (size : Nat) : List UInt8 := List.replicate size 120
def edD (n : Nat) (a : Int) (size : Nat) : Bool → List UInt8
  | true => Ar.put (Ar.zeros n) a.toNat (xsB size)
  | false => Ar.zeros n
def edL (n : Nat) (a : Int) (size : Nat) (fb : Bool) : List Bl := [(1, edD n a size fb), (2, Ar.zeros 20)]
def edC (size : Nat) : Bool → List UInt8
  | true => xsB size
  | false => []
def jOf : Bool → Int
  | true => 0
  | false => 1
theorem zeros_len (n : Nat) : (Ar.zeros n).length = n := by simp [Ar.zeros]
theorem xs_len (n : Nat) : (xsB n).length = n := by simp [xsB]
theorem edD_len {n : Nat} {a : Int} {size : Nat} (fb : Bool) (h : fb = true → Within n a size) : (edD n a size fb).length = n := by
  cases fb with
  | false => exact zeros_len n
  | true =>
    obtain ⟨h1, h2, h3, h4⟩ := h rfl
    unfold edD
    rw [Ar.put_len _ _ _ (by rw [xs_len, zeros_len]; omega), zeros_len]
theorem ed_write (A I n size : Nat) (a : Int) (w0 w : World) (fb : Bool) (jv : Int) (hj : jv = jOf fb) (hfb : fb = fitsB n a size) (h : Mn A 2048 I ((xsB size).map encB) 5 [(1, Ar.zeros n), (2, Ar.zeros 20)] w0 w) (hs : size ≤ 1000) (hI1 : -9223372036854775808 ≤ a) (hI2 : a ≤ 9223372036854775807) :
    Calls Tryd.prog 23 #[.pointer (some ⟨A, 0, none⟩), .int .i64 1, .int .i64 a, .slice (some ⟨I, 0, none⟩) size size] w fun e w' => e = .returned (.int .i64 jv) ∧ Mn A 2048 I ((xsB size).map encB) 5 (edL n a size fb) w0 w' := by
  subst hj
  have hv := rdB_block (c := size) h.blk (xs_len size).symm
  cases fb with
  | true =>
    obtain ⟨h1, h2, h3, h4⟩ := fitsB_iff.1 hfb.symm
    obtain ⟨k, rfl⟩ : ∃ k : Nat, a = (k : Int) := ⟨a.toNat, by omega⟩
    refine (write_ok _ A 2048 [] [(2, Ar.zeros 20)] (1, Ar.zeros n) _ 1 (k : Int) k _ (xsB size) w rfl rfl h.hx hv (by rw [xs_len, zeros_len]; omega)).mono fun e w' ⟨he, hL⟩ => ⟨he, h.to ?_⟩
    unfold edL edD
    rw [Int.toNat_natCast]
    exact hL
  | false =>
    have hno : ¬ Within n a size := fun hw => by rw [fitsB_iff.2 hw] at hfb; cases hfb
    exact (write_no _ A 2048 _ (1, Ar.zeros n) _ 1 a _ (xsB size) w rfl (by simp) h.hx hv (by rw [xs_len]; omega) (by rw [xs_len, zeros_len]; exact hno) hI1 hI2).mono fun e w' ⟨he, hL⟩ => ⟨he, h.to hL⟩
theorem put_back (d l : List UInt8) (k : Nat) (h : k + l.length ≤ d.length) : ((Ar.put d k l).drop k).take l.length = l := by
  unfold Ar.put
  have h1 : (d.take k).length = k := by simp; omega
  rw [List.append_assoc, List.drop_left' h1, List.take_left' rfl]
theorem ed_read1 (A I n size : Nat) (a : Int) (w0 w : World) (fb : Bool) (jv : Int) (ln : Nat) (hj : jv = jOf fb) (hln : ln = (edC size fb).length) (hfb : fb = fitsB n a size) (h : Mn A 2048 I ((xsB size).map encB) 5 (edL n a size fb) w0 w) (hI1 : -9223372036854775808 ≤ a) (hI2 : a ≤ 9223372036854775807) (hs : size ≤ 1000) :
    Calls Tryd.prog 21 #[.pointer (some ⟨A, 0, none⟩), .int .i64 1, .int .i64 a, .int .i64 (size : Int)] w fun e w' => ∃ ao c, e = .returned (.tuple #[.slice ao ln c, .int .i64 jv]) ∧ RdB (.slice ao ln c) (edC size fb) w' ∧ Mn A 2048 I ((xsB size).map encB) 5 (edL n a size fb) w0 w' := by
  subst hj hln
  cases fb with
  | true =>
    obtain ⟨h1, h2, h3, h4⟩ := fitsB_iff.1 hfb.symm
    obtain ⟨k, rfl⟩ : ∃ k : Nat, a = (k : Int) := ⟨a.toNat, by omega⟩
    refine (read_ok _ A 2048 _ (1, edD n (k : Int) size true) _ 1 (k : Int) (size : Int) k size w rfl rfl rfl (by simp [edL]) h.hx (by show k + size ≤ (edD n (k : Int) size true).length; rw [edD_len true (fun _ => ⟨h1, h2, h3, h4⟩)]; omega)).mono fun e w' ⟨v, he, hr, hL, hb⟩ => ?_
    have e1 : ((edD n (k : Int) size true).drop k).take size = xsB size := by
      have := put_back (Ar.zeros n) (xsB size) k (by rw [xs_len, zeros_len]; omega)
      rw [xs_len] at this
      exact this
    have hr2 : RdB v (xsB size) w' := RdB.own (base := w.heap.size) (by rw [xs_len]; rw [e1] at hr; exact hr)
    obtain ⟨ao, c, rfl, _⟩ := hr2.form
    exact ⟨ao, c, he, hr2, h.to hL⟩
  | false =>
    have hno : ¬ Within n a size := fun hw => by rw [fitsB_iff.2 hw] at hfb; cases hfb
    refine (read_no _ A 2048 _ (1, Ar.zeros n) _ 1 a (size : Int) w rfl (by simp [edL, edD]) h.hx (by rw [zeros_len]; exact hno) hI1 hI2 (by omega) (by omega)).mono fun e w' ⟨he, hL, _⟩ => ⟨none, 0, he, rdB_nil w' 0, h.to hL⟩
theorem ed_read2 (A I n size : Nat) (a : Int) (w0 w : World) (fb : Bool) (hfb : fb = fitsB n a size) (h : Mn A 2048 I ((xsB size).map encB) 5 (edL n a size fb) w0 w) :
    Calls Tryd.prog 21 #[.pointer (some ⟨A, 0, none⟩), .int .i64 1, .int .i64 0, .int .i64 (n : Int)] w fun e w' => ∃ ao c, e = .returned (.tuple #[.slice ao n c, .int .i64 0]) ∧ RdB (.slice ao n c) (edD n a size fb) w' ∧ Mn A 2048 I ((xsB size).map encB) 5 (edL n a size fb) w0 w' ∧ Below w.heap.size w w' := by
  have hl : (edD n a size fb).length = n := edD_len fb fun e => fitsB_iff.1 (hfb ▸ e)
  refine (read_ok _ A 2048 _ (1, edD n a size fb) _ 1 0 (n : Int) 0 n w rfl rfl rfl (by simp [edL]) h.hx (by show 0 + n ≤ (edD n a size fb).length; omega)).mono fun e w' ⟨v, he, hr, hL, hb⟩ => ?_
  have e1 : ((edD n a size fb).drop 0).take n = edD n a size fb := by rw [List.drop_zero, List.take_of_length_le (by omega)]
  have hr2 : RdB v (edD n a size fb) w' := RdB.own (base := w.heap.size) (by rw [hl]; rw [e1] at hr; exact hr)
  obtain ⟨ao, c, rfl, _⟩ := hr2.form
  rw [hl] at he hr2
  exact ⟨ao, c, he, hr2, h.to hL, hb⟩
theorem ed_read3 (A I n size : Nat) (a : Int) (w0 w : World) (fb : Bool) (h : Mn A 2048 I ((xsB size).map encB) 5 (edL n a size fb) w0 w) :
    Calls Tryd.prog 21 #[.pointer (some ⟨A, 0, none⟩), .int .i64 2, .int .i64 0, .int .i64 20] w fun e w' => ∃ ao c, e = .returned (.tuple #[.slice ao 20 c, .int .i64 0]) ∧ RdB (.slice ao 20 c) (Ar.zeros 20) w' ∧ Mn A 2048 I ((xsB size).map encB) 5 (edL n a size fb) w0 w' ∧ Below w.heap.size w w' := by
  refine (read_ok _ A 2048 _ (2, Ar.zeros 20) _ 2 0 20 0 20 w rfl rfl rfl (by simp [edL]) h.hx (by rw [zeros_len]; omega)).mono fun e w' ⟨v, he, hr, hL, hb⟩ => ?_
  have e1 : ((Ar.zeros 20).drop 0).take 20 = Ar.zeros 20 := by rw [List.drop_zero, List.take_of_length_le (by rw [zeros_len]; omega)]
  have hr2 : RdB v (Ar.zeros 20) w' := RdB.own (base := w.heap.size) (by rw [zeros_len]; rw [e1] at hr; exact hr)
  obtain ⟨ao, c, rfl, _⟩ := hr2.form
  rw [zeros_len] at he hr2
  exact ⟨ao, c, he, hr2, h.to hL, hb⟩
theorem ed_write99 (A I n size : Nat) (a : Int) (w0 w : World) (fb : Bool) (h : Mn A 2048 I ((xsB size).map encB) 5 (edL n a size fb) w0 w) :
    Calls Tryd.prog 23 #[.pointer (some ⟨A, 0, none⟩), .int .i64 99, .int .i64 0, .slice none 0 0] w fun e w' => e = .returned (.int .i64 5) ∧ Mn A 2048 I ((xsB size).map encB) 5 (edL n a size fb) w0 w' :=
  (write_none _ A 2048 _ _ 99 0 _ [] w (by unfold edL; intro b hb; simp at hb; rcases hb with rfl | rfl <;> simp) h.hx (rdB_nil w 0) (by simp) (by omega) (by omega)).mono fun e w' ⟨he, hL⟩ => ⟨he, h.to hL⟩
theorem ed_alloc1 (A n : Nat) (w0 w : World) (h : HX (fun _ => False) A 2048 [] w0.heap.size w) (hb : Below w0.heap.size w0 w) (hn : n ≤ 500) :
    Calls Tryd.prog 17 #[.pointer (some ⟨A, 0, none⟩), .int .i64 (n : Int)] w fun e w' => e = .returned (.tuple #[.int .i64 1, .int .i64 0]) ∧ HX (fun _ => False) A 2048 [(1, Ar.zeros n)] w0.heap.size w' ∧ Below w0.heap.size w0 w' := by
  have hc : Ar.cost n ≤ 512 := by unfold Ar.cost; (repeat' split) <;> omega
  refine (alloc_ok _ A 2048 [] _ _ n w rfl h (by omega) (by rw [sumC_nil]; omega)).mono fun e w' ⟨L1, L2, e1, hl, he, hL⟩ => ?_
  obtain ⟨rfl, rfl⟩ := List.append_eq_nil_iff.1 e1.symm
  exact ⟨he, hL.at_, hb.trans hL.below⟩
theorem ed_alloc2 (A n : Nat) (w0 w : World) (h : HX (fun _ => False) A 2048 [(1, Ar.zeros n)] w0.heap.size w) (hb : Below w0.heap.size w0 w) (hn : n ≤ 500) :
    Calls Tryd.prog 17 #[.pointer (some ⟨A, 0, none⟩), .int .i64 20] w fun e w' => e = .returned (.tuple #[.int .i64 2, .int .i64 0]) ∧ HX (fun _ => False) A 2048 [(1, Ar.zeros n), (2, Ar.zeros 20)] w0.heap.size w' ∧ Below w0.heap.size w0 w' := by
  have hc : Ar.cost n ≤ 512 := by unfold Ar.cost; (repeat' split) <;> omega
  have hc2 : Ar.cost 20 = 32 := by decide
  refine (alloc_ok _ A 2048 _ _ 20 20 w rfl h (by omega) (by rw [sumC_cons, sumC_nil]; simp only [zeros_len]; omega)).mono fun e w' ⟨L1, L2, e1, hl, he, hL⟩ => ?_
  have hL1 : L1 = [(1, Ar.zeros n)] ∧ L2 = [] := by
    cases L1 with
    | nil =>
      simp at e1
      subst e1
      have := hl.2 (1, Ar.zeros n) (by simp)
      simp at this
    | cons y r =>
      simp at e1
      obtain ⟨rfl, e2, e3⟩ := e1
      exact ⟨by rw [e2], e3⟩
  obtain ⟨rfl, rfl⟩ := hL1
  exact ⟨he, hL.at_, hb.trans hL.below⟩
theorem ed_new (w : World) (hT : TabOk w) : Calls Tryd.prog 15 #[.int .i64 2048] w fun e w' => ∃ A, e = .returned (.tuple #[.pointer (some ⟨A, 0, none⟩), .int .i64 0]) ∧ HX (fun _ => False) A 2048 [] w.heap.size w' ∧ Below w.heap.size w w' :=
  new_x 2048 w (by decide) (by decide) hT
end Go.Proofs.YtbmppnfliiiobaaDoor

/- Package intern: a block is read. -/
set_option maxRecDepth 100000
namespace Go.Proofs.YtbmppnfliiiobaaDoor
open Go.RowKit Go.Shelf
attribute [local go_sem] Oper.semAt_some
theorem RdB.drop {ao : Option Addr} {n c k : Nat} {l : List UInt8} {W : World} (h : RdB (.slice ao n c) l W) (hc : n ≤ c) (hk : k ≤ n) :
    ∃ ao', (∀ W' : World, (Instr.slice 34 (.slice ao n c) (some (.int .i64 (k : Int))) none none).run Tryd.prog W' = .ok (.slice ao' (n - k) (c - k)) W') ∧ (∀ W', RdB (.slice ao n c) l W' → RdB (.slice ao' (n - k) (c - k)) (l.drop k) W') := by
  have hn : n = l.length := by
    obtain ⟨_, _, e, _⟩ := h.form
    cases e; rfl
  subst hn
  have hu : Tryd.prog.underlying 34 = some (.slice (Tryd.prog.elem 34)) := by kernel_rfl
  have hs : ∀ W', (sizeOf (Tryd.prog.elem 34)).run Tryd.prog W' = .ok 1 W' := fun W' => by
    obtain ⟨i, hi, _, h1, _⟩ := info_parts infoU8
    have he : Tryd.prog.elem 34 = 5 := by kernel_rfl
    rw [he]
    simp [sizeOf, typeInfo, hi, h1]
  refine ⟨if c = k then ao else ao.map (·.add (k * 1)), fun W' => by rw [run_slice_l (w := W') 34 ao l.length c hu .i64 (k : Int) (by omega) (by omega), hs W']; rfl, fun W' h' => ⟨_, _, by rw [List.length_drop], fun j hj => ?_⟩⟩
  rw [List.length_drop] at hj
  obtain ⟨ao', cap', e, hc'⟩ := h'.form
  cases e
  obtain ⟨g, off, e, c0⟩ := hc' (k + j) (by omega)
  subst e
  refine ⟨g, off + k, by rw [if_neg (by omega)]; simp [Addr.add], ?_⟩
  rw [List.getElem_drop, Nat.add_assoc]
  exact c0
def agB (uses next : Nat) (name : List UInt8) : Value := .agg #[.int .i64 (uses : Int), .int .i64 (next : Int), .string ⟨name.toArray⟩]
def BlockNo (x : Nat → Prop) (A B : Nat) (L : List Bl) (n0 : Nat) (w : World) (e : Ending) (w' : World) : Prop := e = .returned (.tuple #[agB 0 0 [], .bool false]) ∧ LX x A B L n0 w w' ∧ Below w.heap.size w w'
set_option maxHeartbeats 8000000 in
theorem iblock_none (x : Nat → Prop) (t : TB) (B nn cnt : Nat) (L : List Bl) (n0 : Nat) (z : Int) (w : World) (h : HX x t.A B L n0 w) (hb : Blk w t.T (tbBox t nn cnt) 109) (hz : ∀ b ∈ L, (b.1 : Int) ≠ z) :
    Calls Tryd.prog 100 #[.pointer (some ⟨t.T, 0, none⟩), .int .i64 z] w (BlockNo x t.A B L n0 w) := by
  obtain ⟨A, T, F⟩ := t
  have hT := hb.lt
  have HB := Lib.hid hb
  have H := Lib.hid h
  have HZ := Lib.hid hz
  clear h hb hz
  have c0 := (HB.out.alloc (.cells #[.int .i64 0, .int .i64 0, .string ⟨#[]⟩] 111)).cell (i := 0) rfl
  have H1 := Lib.hid (H.out.lx ((Below.refl _ w).alloc (Nat.le_refl _) (.cells #[.int .i64 0, .int .i64 0, .string ⟨#[]⟩] 111)))
  go_enter Tryd.func100, Tryd.ntmps100
  have HR0 := Lib.hid (Blk.new w [.int .i64 0, .int .i64 0, .string ⟨#[]⟩] 111)
  have hsz : (w.alloc (.cells #[.int .i64 0, .int .i64 0, .string ⟨#[]⟩] 111)).heap.size = w.heap.size + 1 := World.size_alloc _ _
  have HSZ := Lib.hid hsz
  clear hsz
  go_wp2_with fail
  refine (size_none' x A B L n0 z _ HZ.out H1.out.at_).mono ?_
  rintro e w2 ⟨rfl, h2, b2⟩
  have H2 := Lib.hid (H1.out.to h2)
  have hb2 : Below (w.heap.size + 1) (w.alloc (.cells #[.int .i64 0, .int .i64 0, .string ⟨#[]⟩] 111)) w2 := by rw [← HSZ.out]; exact b2
  have hw2 : Below w.heap.size w w2 := ((Below.refl _ w).alloc (Nat.le_refl _) _).trans (hb2.mono (by omega))
  have c2 := (HB.out.kept (hw2.block _ hT)).cell (i := 0) rfl
  have HR2 := Lib.hid (HR0.out.kept (hb2.block _ (by omega)))
  have HW2 := Lib.hid hw2
  clear h2 b2 hb2 hw2 c0
  go_wp2_with fail
  refine (read_none x A B L n0 z 0 0 _ HZ.out H2.out.at_ (by omega) (by omega) (by omega) (by omega)).mono ?_
  rintro e w3 ⟨rfl, h3, b3⟩
  have H3 := Lib.hid (H2.out.to h3)
  have hw3 : Below w.heap.size w w3 := HW2.out.trans (b3.mono HW2.out.size)
  have HR3 := Lib.hid (HR2.out.kept (b3.block _ HR2.out.lt))
  have HW3 := Lib.hid hw3
  have hsz3 : w.heap.size < w3.heap.size := HR3.out.lt
  clear h3 b3 hw3 c2
  have r0 := HR3.out.cell (i := 0) rfl
  have r1 := HR3.out.cell (i := 1) rfl
  have r2 := HR3.out.cell (i := 2) rfl
  have f0 := HR3.out.frozen 0
  have f1 := HR3.out.frozen 1
  have f2 := HR3.out.frozen 2
  go_wp2
  have hr4 := ((HR3.out.set 0 (.int .i64 0)).set 1 (.int .i64 0)).set 2 (.string ⟨#[]⟩)
  have hb4 := ((HW3.out.setCell (p := ⟨w.heap.size, 0, none⟩) (Nat.le_refl _) (.int .i64 0)).setCell (p := ⟨w.heap.size, 1, none⟩) (Nat.le_refl _) (.int .i64 0)).setCell (p := ⟨w.heap.size, 2, none⟩) (Nat.le_refl _) (.string ⟨#[]⟩)
  clear r0 r1 r2 f0 f1 f2
  generalize World.setCell _ _ _ = W4 at hr4 hb4 ⊢
  have q0 := hr4.cell (i := 0) rfl
  have q1 := hr4.cell (i := 1) rfl
  have q2 := hr4.cell (i := 2) rfl
  exact bodyPost_ret (v := .tuple #[.agg #[.int .i64 0, .int .i64 0, .string ⟨#[]⟩], .bool false]) (by simp [results, Tryd.results100, go_sem, q0, q1, q2]) rfl ⟨rfl, H.out.lx hb4, hb4⟩
def BlockYes (x : Nat → Prop) (A B : Nat) (L : List Bl) (n0 : Nat) (d : List UInt8) (w : World) (e : Ending) (w' : World) : Prop := e = .returned (.tuple #[agB (dec4 d) (dec4 (d.drop 4)) (d.drop 8), .bool true]) ∧ LX x A B L n0 w w' ∧ Below w.heap.size w w'
set_option maxHeartbeats 16000000 in
theorem iblock_some (x : Nat → Prop) (t : TB) (B nn cnt : Nat) (L : List Bl) (b : Bl) (n0 : Nat) (z : Int) (w : World) (h : HX x t.A B L n0 w) (hb : Blk w t.T (tbBox t nn cnt) 109) (hm : b ∈ L) (hz : z = (b.1 : Int)) (hl : 8 ≤ b.2.length) :
    Calls Tryd.prog 100 #[.pointer (some ⟨t.T, 0, none⟩), .int .i64 z] w (BlockYes x t.A B L n0 b.2 w) := by
  obtain ⟨A, T, F⟩ := t
  obtain ⟨id, d⟩ := b
  simp only at hz hl hm ⊢
  have hT := hb.lt
  have hd4 := (h.each.2 _ hm).2
  simp only at hd4
  have HB := Lib.hid hb
  have H := Lib.hid h
  have HM := Lib.hid hm
  have HZ := Lib.hid hz
  clear h hb hz hm
  have c0 := (HB.out.alloc (.cells #[.int .i64 0, .int .i64 0, .string ⟨#[]⟩] 111)).cell (i := 0) rfl
  have H1 := Lib.hid (H.out.lx ((Below.refl _ w).alloc (Nat.le_refl _) (.cells #[.int .i64 0, .int .i64 0, .string ⟨#[]⟩] 111)))
  have HR0 := Lib.hid (Blk.new w [.int .i64 0, .int .i64 0, .string ⟨#[]⟩] 111)
  have hsz : (w.alloc (.cells #[.int .i64 0, .int .i64 0, .string ⟨#[]⟩] 111)).heap.size = w.heap.size + 1 := World.size_alloc _ _
  have HSZ := Lib.hid hsz
  clear hsz
  go_enter Tryd.func100, Tryd.ntmps100
  go_wp2_with fail
  refine (size_ok x A B L (id, d) n0 z _ HZ.out HM.out H1.out.at_).mono ?_
  rintro e w2 ⟨rfl, h2, b2⟩
  have H2 := Lib.hid (H1.out.to h2)
  have hb2 : Below (w.heap.size + 1) (w.alloc (.cells #[.int .i64 0, .int .i64 0, .string ⟨#[]⟩] 111)) w2 := by rw [← HSZ.out]; exact b2
  have hw2 : Below w.heap.size w w2 := ((Below.refl _ w).alloc (Nat.le_refl _) _).trans (hb2.mono (by omega))
  have c2 := (HB.out.kept (hw2.block _ hT)).cell (i := 0) rfl
  have HR2 := Lib.hid (HR0.out.kept (hb2.block _ (by omega)))
  have HW2 := Lib.hid hw2
  clear h2 b2 hb2 hw2 c0
  simp only
  go_wp2_with fail
  refine (read_ok x A B L (id, d) n0 z 0 (d.length : Int) 0 d.length _ HZ.out rfl rfl HM.out H2.out.at_ (by simp)).mono ?_
  rintro e w3 ⟨v3, rfl, r3, h3, b3⟩
  have hrd : RdB v3 d w3 := RdB.own (base := w2.heap.size) (by simpa using r3)
  have hcap : ∃ ao c, v3 = .slice ao d.length c ∧ d.length ≤ c := by
    rcases r3.2 with ⟨rfl, hn⟩ | ⟨g, cap, cur, rfl, _, _, h5, _⟩
    · exact ⟨none, 0, by rw [hn], by omega⟩
    · exact ⟨_, cap, rfl, h5⟩
  obtain ⟨ao, c, rfl, hc⟩ := hcap
  have HRD := Lib.hid hrd
  have hw3 : Below w.heap.size w w3 := HW2.out.trans (b3.mono HW2.out.size)
  have HR3 := Lib.hid (HR2.out.kept (b3.block _ HR2.out.lt))
  have HW3 := Lib.hid hw3
  have hsz3 : w.heap.size < w3.heap.size := HR3.out.lt
  obtain ⟨a4, s4, rd4⟩ := hrd.drop hc (k := 4) (by omega)
  obtain ⟨a8, s8, rd8⟩ := hrd.drop hc (k := 8) (by omega)
  replace s4 : ∀ W' : World, (Instr.slice 34 (.slice ao d.length c) (some (.int .i64 4)) none none).run Tryd.prog W' = .ok (.slice a4 (d.length - 4) (c - 4)) W' := s4
  replace s8 : ∀ W' : World, (Instr.slice 34 (.slice ao d.length c) (some (.int .i64 8)) none none).run Tryd.prog W' = .ok (.slice a8 (d.length - 8) (c - 8)) W' := s8
  have RD4 := Lib.hid (rd4 _ hrd)
  have cv8 := Lib.hid (fun W (hb : Below w3.heap.size w3 W) => run_rd_any (rd8 _ (hrd.below hb)))
  clear h3 b3 hw3 c2 r3 hrd rd4 rd8
  have nl : ¬ d.length < 8 := by omega
  have hr0 := HR3.out.cell (i := 0) rfl
  have hr1 := HR3.out.cell (i := 1) rfl
  have hr2 := HR3.out.cell (i := 2) rfl
  have f0 := HR3.out.frozen 0
  have f1 := HR3.out.frozen 1
  have f2 := HR3.out.frozen 2
  have HF1 := Lib.hid (show ∀ W, Below w3.heap.size w3 W → Calls Tryd.prog 107 #[.slice ao d.length c] W fun e w' => e = .returned (.int .i64 (dec4 d : Int)) ∧ Below w3.heap.size w3 w' from fun W hb => (four_any _ d W (HRD.out.below hb) (by omega)).mono fun e w' ⟨he, hd⟩ => ⟨he, hb.trans hd.below⟩)
  have HF2 := Lib.hid (show ∀ W, Below w3.heap.size w3 W → Calls Tryd.prog 107 #[.slice a4 (d.length - 4) (c - 4)] W fun e w' => e = .returned (.int .i64 (dec4 (d.drop 4) : Int)) ∧ Below w3.heap.size w3 w' from fun W hb => (four_any _ (d.drop 4) W (RD4.out.below hb) (by rw [List.length_drop]; omega)).mono fun e w' ⟨he, hd⟩ => ⟨he, hb.trans hd.below⟩)
  have dr0 : Below w3.heap.size w3 w3.drew := (Below.refl _ w3).drew
  have DR0 := Lib.hid dr0
  have cvd := cv8.out w3.drew dr0
  clear dr0 HRD RD4
  go_wp2
  go_region_with (first
    | (go_at_call 107; (with_reducible refine (HF1.out _ (by first | exact hbz.out | exact DR0.out)).mono ?_); rintro e w' ⟨rfl, hbz1⟩; have hbz := Lib.hid hbz1; have cvm := cv8.out w' hbz1; have hRz := HR3.out.kept (hbz1.block _ HR3.out.lt); have q0 := hRz.cell (i := 0) rfl; have q1 := hRz.cell (i := 1) rfl; have q2 := hRz.cell (i := 2) rfl; have g0 := hRz.frozen 0; have g1 := hRz.frozen 1; have g2 := hRz.frozen 2; have HRz := Lib.hid hRz; clear hbz1 hRz)
    | (go_at_call 107; (with_reducible refine (HF2.out _ (by first | exact hbz.out | exact DR0.out)).mono ?_); rintro e w' ⟨rfl, hbz1⟩; have hbz := Lib.hid hbz1; have cvm := cv8.out w' hbz1; have hRz := HR3.out.kept (hbz1.block _ HR3.out.lt); have q0 := hRz.cell (i := 0) rfl; have q1 := hRz.cell (i := 1) rfl; have q2 := hRz.cell (i := 2) rfl; have g0 := hRz.frozen 0; have g1 := hRz.frozen 1; have g2 := hRz.frozen 2; have HRz := Lib.hid hRz; clear hbz1 hRz))
  all_goals
    go_wp2
    have hr4 := ((HRz.out.set 0 (.int .i64 (dec4 d : Int))).set 1 (.int .i64 (dec4 (d.drop 4) : Int))).set 2 (.string ⟨(d.drop 8).toArray⟩)
    have hb4 := (((HW3.out.trans (hbz.out.mono HW3.out.size)).setCell (p := ⟨w.heap.size, 0, none⟩) (Nat.le_refl _) (.int .i64 (dec4 d : Int))).setCell (p := ⟨w.heap.size, 1, none⟩) (Nat.le_refl _) (.int .i64 (dec4 (d.drop 4) : Int))).setCell (p := ⟨w.heap.size, 2, none⟩) (Nat.le_refl _) (.string ⟨(d.drop 8).toArray⟩)
    clear q0 q1 q2 g0 g1 g2 cvm
    generalize World.setCell _ _ _ = W4 at hr4 hb4 ⊢
    have q0 := hr4.cell (i := 0) rfl
    have q1 := hr4.cell (i := 1) rfl
    have q2 := hr4.cell (i := 2) rfl
    exact bodyPost_ret (v := .tuple #[.agg #[.int .i64 (dec4 d : Int), .int .i64 (dec4 (d.drop 4) : Int), .string ⟨(d.drop 8).toArray⟩], .bool true]) (by simp [results, Tryd.results100, go_sem, q0, q1, q2]) rfl ⟨rfl, H.out.lx hb4, hb4⟩
end Go.Proofs.YtbmppnfliiiobaaDoor

/- Package intern: a name is looked for. -/
set_option maxRecDepth 100000
namespace Go.Proofs.YtbmppnfliiiobaaDoor
open Go.RowKit Go.Shelf
attribute [local go_sem] Oper.semAt_some
/-- A name that is there. -/
structure Ent where
  id : Nat
  uses : Nat
  name : List UInt8
def headId : List Ent → Nat
  | [] => 0
  | e :: _ => e.id
def lastId (P : List Ent) : Nat := match P.getLast? with
  | some e => e.id
  | none => 0
def linked (L : List Bl) : List Ent → Prop
  | [] => True
  | e :: r => (e.id, blkE e.uses (headId r) e.name) ∈ L ∧ linked L r
/-- How many names the first so many chains have. -/
def tot (C : Nat → List Ent) : Nat → Nat
  | 0 => 0
  | n + 1 => tot C n + (C n).length
def upd (C : Nat → List Ent) (c : Nat) (l : List Ent) : Nat → List Ent := fun k => if k = c then l else C k
theorem upd_same (C : Nat → List Ent) (c : Nat) (l : List Ent) : upd C c l c = l := by unfold upd; rw [if_pos rfl]
theorem upd_other {C : Nat → List Ent} {c k : Nat} {l : List Ent} (h : k ≠ c) : upd C c l k = C k := by unfold upd; rw [if_neg h]
theorem le_tot {C : Nat → List Ent} : ∀ {n c : Nat}, c < n → (C c).length ≤ tot C n
  | n + 1, c, h => by
    unfold tot
    by_cases e : c = n
    · subst e; omega
    · have := le_tot (C := C) (n := n) (c := c) (by omega); omega
theorem tot_upd_out {C : Nat → List Ent} {c : Nat} {l : List Ent} : ∀ {n : Nat}, n ≤ c → tot (upd C c l) n = tot C n
  | 0, _ => rfl
  | n + 1, h => by
    unfold tot
    rw [tot_upd_out (by omega), upd_other (by omega)]
theorem tot_upd {C : Nat → List Ent} {c : Nat} {l : List Ent} : ∀ {n : Nat}, c < n → tot (upd C c l) n + (C c).length = tot C n + l.length
  | n + 1, h => by
    unfold tot
    by_cases e : c = n
    · subst e
      rw [tot_upd_out (Nat.le_refl _), upd_same]
      omega
    · have := tot_upd (C := C) (l := l) (n := n) (c := c) (by omega)
      rw [upd_other (show n ≠ c by omega)]
      omega
structure TI (nn : Nat) (C : Nat → List Ent) (F : List Nat) (cnt : Nat) (L : List Bl) : Prop where
  pos : 1 ≤ nn
  lim : nn ≤ 1000000
  len : F.length = nn
  first : ∀ c, c < nn → F[c]? = some (headId (C c))
  link : ∀ c, c < nn → linked L (C c)
  hash : ∀ c, c < nn → ∀ e ∈ C c, hashN e.name % nn = c
  names : ∀ c, c < nn → ((C c).map Ent.name).Nodup
  count : tot C nn = cnt
  clim : cnt ≤ 1000000
  small : ∀ c, c < nn → ∀ e ∈ C c, e.uses < 2147483648 ∧ e.id < 2147483648 ∧ e.name.length ≤ 300
theorem TI.most {nn : Nat} {C : Nat → List Ent} {F : List Nat} {cnt : Nat} {L : List Bl} (I : TI nn C F cnt L) (c : Nat) (h : c < nn) : (C c).length ≤ cnt := by rw [← I.count]; exact le_tot h
theorem linked_app {L : List Bl} : ∀ {P : List Ent} {e : Ent} {R : List Ent}, linked L (P ++ e :: R) → (e.id, blkE e.uses (headId R) e.name) ∈ L
  | [], _, _, h => h.1
  | _ :: P, _, _, h => linked_app (P := P) h.2
theorem dec_blk (uses next : Nat) (name : List UInt8) (hu : uses < 4294967296) (hx : next < 4294967296) : dec4 (blkE uses next name) = uses ∧ dec4 ((blkE uses next name).drop 4) = next ∧ (blkE uses next name).drop 8 = name := by
  refine ⟨?_, ?_, rfl⟩
  · unfold blkE
    rw [List.append_assoc]
    exact dec4_b4 uses _ hu
  · show dec4 (b4 next ++ name) = next
    exact dec4_b4 next _ hx
theorem headId_lt {R : List Ent} (h : ∀ e ∈ R, e.id < 2147483648) : headId R < 2147483648 := by
  cases R with
  | nil => simp [headId]
  | cons e r => exact h e (by simp)
def encF (x : Nat) : Value := .int .i32 (x : Int)
/-- A table in memory: its box, the row of its chains. -/
structure TbE (x : Nat → Prop) (t : TB) (F : List Nat) (cnt : Nat) (w : World) : Prop where
  box : Blk w t.T (tbBox t F.length cnt) 109
  row : Blk w t.F (F.map encF) 21
  xT : x t.T
  xF : x t.F
theorem TbE.below {x : Nat → Prop} {t : TB} {F : List Nat} {cnt : Nat} {w w' : World} (h : TbE x t F cnt w) (hb : Below w.heap.size w w') : TbE x t F cnt w' :=
  ⟨h.box.kept (hb.block _ h.box.lt), h.row.kept (hb.block _ h.row.lt), h.xT, h.xF⟩
theorem TbE.lx {x : Nat → Prop} {t : TB} {F : List Nat} {cnt A B : Nat} {L : List Bl} {n0 : Nat} {w w' : World} (h : TbE x t F cnt w) (k : LX x A B L n0 w w') : TbE x t F cnt w' :=
  ⟨k.blk h.xT h.box, k.blk h.xF h.row, h.xT, h.xF⟩
def entV (c ahead id uses next : Nat) (name : List UInt8) : Value := .agg #[.int .i64 (c : Int), .int .i64 (ahead : Int), .int .i64 (id : Int), .int .i64 (uses : Int), .int .i64 (next : Int), .string ⟨name.toArray⟩]
def FindRet (x : Nat → Prop) (A B nn : Nat) (C : Nat → List Ent) (L : List Bl) (n0 : Nat) (l : List UInt8) (w : World) (e : Ending) (w' : World) : Prop :=
  LX x A B L n0 w w' ∧ Below w.heap.size w w' ∧ (((∀ e ∈ C (hashN l % nn), e.name ≠ l) ∧ e = .returned (.tuple #[entV 0 0 0 0 0 [], .bool false])) ∨
    (∃ P y R, C (hashN l % nn) = P ++ y :: R ∧ y.name = l ∧ e = .returned (.tuple #[entV (hashN l % nn) (lastId P) y.id y.uses (headId R) y.name, .bool true])))
structure FiSt (x : Nat → Prop) (t : TB) (B : Nat) (F : List Nat) (cnt : Nat) (L : List Bl) (n0 : Nat) (w wr : World) : Prop where
  hx : HX x t.A B L n0 wr
  tb : TbE x t F cnt wr
  box : Blk wr w.heap.size [.int .i64 0, .int .i64 0, .int .i64 0, .int .i64 0, .int .i64 0, .string ⟨#[]⟩] 113
  bel : Below w.heap.size w wr
theorem FiSt.after {x : Nat → Prop} {t : TB} {B : Nat} {F : List Nat} {cnt : Nat} {L : List Bl} {n0 : Nat} {w wr w' : World} (h : FiSt x t B F cnt L n0 w wr) (hb : Below wr.heap.size wr w') : FiSt x t B F cnt L n0 w w' :=
  ⟨h.hx.after hb, h.tb.below hb, h.box.kept (hb.block _ h.box.lt), h.bel.trans (hb.mono h.bel.size)⟩
theorem six_end {W : World} {R n : Nat} {l : List Value} {T : TypeId} (h : Blk W R l T) (hn : n ≤ R) (hl : l.length = 6) (v0 v1 v2 v3 v4 v5 : Value) : Blk ((((((W.setCell ⟨R, 0, none⟩ v0).setCell ⟨R, 1, none⟩ v1).setCell ⟨R, 2, none⟩ v2).setCell ⟨R, 3, none⟩ v3).setCell ⟨R, 4, none⟩ v4).setCell ⟨R, 5, none⟩ v5) R [v0, v1, v2, v3, v4, v5] T ∧
    Below n W ((((((W.setCell ⟨R, 0, none⟩ v0).setCell ⟨R, 1, none⟩ v1).setCell ⟨R, 2, none⟩ v2).setCell ⟨R, 3, none⟩ v3).setCell ⟨R, 4, none⟩ v4).setCell ⟨R, 5, none⟩ v5) := by
  refine ⟨?_, ((((((Below.refl n W).setCell (p := ⟨R, 0, none⟩) hn v0).setCell (p := ⟨R, 1, none⟩) hn v1).setCell (p := ⟨R, 2, none⟩) hn v2).setCell (p := ⟨R, 3, none⟩) hn v3).setCell (p := ⟨R, 4, none⟩) hn v4).setCell (p := ⟨R, 5, none⟩) hn v5⟩
  have := (((((h.set 0 v0).set 1 v1).set 2 v2).set 3 v3).set 4 v4).set 5 v5
  match l, hl with
  | [a, b, c, d, e, f], _ => exact this
theorem lastId_snoc (P : List Ent) (y : Ent) : lastId (P ++ [y]) = y.id := by unfold lastId; simp
set_option maxHeartbeats 16000000 in
theorem find_any (x : Nat → Prop) (t : TB) (B nn cnt : Nat) (C : Nat → List Ent) (F : List Nat) (L : List Bl) (n0 : Nat) (l : List UInt8) (w : World) (h : HX x t.A B L n0 w) (ht : TbE x t F cnt w) (I : TI nn C F cnt L) (hl : l.length ≤ 1000000) :
    Calls Tryd.prog 74 #[.pointer (some ⟨t.T, 0, none⟩), .string ⟨l.toArray⟩] w (FindRet x t.A B nn C L n0 l w) := by
  have h0 : FiSt x t B F cnt L n0 w (w.alloc (.cells #[.int .i64 0, .int .i64 0, .int .i64 0, .int .i64 0, .int .i64 0, .string ⟨#[]⟩] 113)) := by
    have hb : Below w.heap.size w (w.alloc (.cells #[.int .i64 0, .int .i64 0, .int .i64 0, .int .i64 0, .int .i64 0, .string ⟨#[]⟩] 113)) := (Below.refl _ w).alloc (Nat.le_refl _) _
    exact ⟨h.after hb, ht.below hb, Blk.new w _ _, hb⟩
  have H0 := Lib.hid h0
  have H := Lib.hid h
  have HI := Lib.hid I
  have hpos := I.pos
  have hlim := I.lim
  have hlen := I.len
  have hclim := I.clim
  clear h0 h ht I
  obtain ⟨c, hc⟩ : ∃ c, hashN l % nn = c := ⟨_, rfl⟩
  have hcn : c < nn := by rw [← hc]; exact Nat.mod_lt _ (by omega)
  have HC := Lib.hid hc
  have HCH := Lib.hid (fun W (k : Blk W t.T (tbBox t nn cnt) 109) => by have z := chainOf_any t nn cnt l W k hl hpos hlim; rw [hc] at z; exact z)
  clear hc
  subst hlen
  obtain ⟨A, T, FF⟩ := t
  simp only at HCH
  go_enter Tryd.func74, Tryd.ntmps74
  go_wp2_with fail
  refine (HCH.out _ H0.out.tb.box).mono ?_
  rintro e w1 ⟨rfl, hd1⟩
  have H1 := Lib.hid (H0.out.after hd1.below)
  clear hd1 H0
  have c1 := H1.out.tb.box.cell (i := 1) rfl
  have cf := H1.out.tb.row.cell (i := c) (v := .int .i32 ((headId (C c) : Nat) : Int)) (by rw [List.getElem?_map, HI.out.first c hcn]; rfl)
  have hh := Lib.hid (show headId (C c) < 2147483648 from headId_lt fun e he => (HI.out.small c hcn e he).2.1)
  have hw1 : IntKind.i64.wrap ((headId (C c) : Nat) : Int) = ((headId (C c) : Nat) : Int) := IntWalk.i64_in _ (by have := hh.out; omega)
  have hnn : c < F.length := hcn
  go_wp2
  go_quiet (fail)
  have H2 := Lib.hid (H1.out.after (below_dr w1 nq))
  clear H1 c1 cf hw1 hh
  generalize w1.drewN nq = w2 at H2 ⊢
  have c2 := H2.out.tb.box.cell (i := 2) rfl
  unfold encI at c2
  go_wp2
  clear c2
  go_loopw [7, 8, 29] (fun ah id i wr => ∃ (k a hd : Nat) (P R : List Ent), i = .int .i64 (k : Int) ∧ ah = .int .i64 (a : Int) ∧ id = .int .i64 (hd : Int) ∧ k ≤ cnt ∧ Hid (a = lastId P) ∧ Hid (hd = headId R) ∧ Hid (C c = P ++ R) ∧ Hid (P.length = k) ∧ Hid (∀ e ∈ P, e.name ≠ l) ∧ Hid (FiSt x ⟨A, T, FF⟩ B F cnt L n0 w wr)) (fun _ _ i _ => cnt + 1 - (intOf i).toNat)
  case atStart => exact ⟨0, 0, headId (C c), [], C c, rfl, rfl, rfl, Nat.zero_le _, Lib.hid rfl, Lib.hid rfl, Lib.hid rfl, Lib.hid rfl, Lib.hid (fun e he => by cases he), H2⟩
  case round =>
    obtain ⟨k, a, hd, P, R, rfl, rfl, rfl, hk, HA, HD, HS, HP, HN, HF⟩ := hrel
    clear H2
    by_cases hlt : k < cnt
    · cases R with
      | nil =>
        obtain rfl : hd = 0 := HD.out
        go_wp2_with fail
        refine (iblock_none x ⟨A, T, FF⟩ B F.length cnt L n0 0 _ HF.out.hx HF.out.tb.box (fun b hb e => by have := (HF.out.hx.each.2 b hb).1; omega)).mono ?_
        rintro e w3 ⟨rfl, _, b3⟩
        have H3 := Lib.hid (HF.out.after b3)
        clear b3 HF
        unfold agB
        have H4 := Lib.hid (H3.out.after ((Below.refl _ w3).alloc (Nat.le_refl _) (.cells #[.int .i64 0, .int .i64 0, .string ⟨#[]⟩] 111)))
        have r0 := H4.out.box.cell (i := 0) rfl
        have r1 := H4.out.box.cell (i := 1) rfl
        have r2 := H4.out.box.cell (i := 2) rfl
        have r3 := H4.out.box.cell (i := 3) rfl
        have r4 := H4.out.box.cell (i := 4) rfl
        have r5 := H4.out.box.cell (i := 5) rfl
        have fr := fun i => H4.out.box.frozen i
        go_wp2
        have k6 := six_end (n := w.heap.size) H4.out.box (Nat.le_refl _) rfl (.int .i64 0) (.int .i64 0) (.int .i64 0) (.int .i64 0) (.int .i64 0) (.string ⟨#[]⟩)
        clear r0 r1 r2 r3 r4 r5 fr
        generalize World.setCell _ _ _ = W6 at k6 ⊢
        obtain ⟨k6, hb6⟩ := k6
        have hb7 := H4.out.bel.trans hb6
        have q0 := k6.cell (i := 0) rfl
        have q1 := k6.cell (i := 1) rfl
        have q2 := k6.cell (i := 2) rfl
        have q3 := k6.cell (i := 3) rfl
        have q4 := k6.cell (i := 4) rfl
        have q5 := k6.cell (i := 5) rfl
        exact bodyPost_ret (v := .tuple #[.agg #[.int .i64 0, .int .i64 0, .int .i64 0, .int .i64 0, .int .i64 0, .string ⟨#[]⟩], .bool false]) (by simp [results, Tryd.results74, go_sem, q0, q1, q2, q3, q4, q5]) rfl ⟨H.out.lx hb7, hb7, .inl ⟨by rw [HC.out, HS.out]; rw [List.append_nil]; exact HN.out, rfl⟩⟩
      | cons y R' =>
        have hyC : y ∈ C c := by rw [HS.out]; simp
        obtain ⟨hyu, hyi, hyn⟩ := HI.out.small c hcn y hyC
        have hR' := headId_lt (R := R') (fun e he => (HI.out.small c hcn e (by rw [HS.out]; simp [he])).2.1)
        have hmem : (y.id, blkE y.uses (headId R') y.name) ∈ L := linked_app (P := P) (by rw [← HS.out]; exact HI.out.link c hcn)
        obtain ⟨d1, d2, d3⟩ := dec_blk y.uses (headId R') y.name (by omega) (by omega)
        have hB := iblock_some x ⟨A, T, FF⟩ B F.length cnt L (y.id, blkE y.uses (headId R') y.name) n0 (hd : Int) wr HF.out.hx HF.out.tb.box hmem (by rw [HD.out]; rfl) (by simp only [blkE_len]; omega)
        unfold BlockYes at hB
        simp only [d1, d2, d3] at hB
        have HB := Lib.hid hB
        obtain ⟨nx, hnx⟩ : ∃ nx, headId R' = nx := ⟨_, rfl⟩
        have HNX := Lib.hid hnx
        obtain ⟨yu, hyu2⟩ : ∃ yu, y.uses = yu := ⟨_, rfl⟩
        have HYU := Lib.hid hyu2
        rw [hnx, hyu2] at HB
        clear hB hmem d1 d2 d3 hyu hyi hR' hnx hyu2
        go_wp2_with fail
        refine HB.out.mono ?_
        rintro e w3 ⟨rfl, _, b3⟩
        have H3 := Lib.hid (HF.out.after b3)
        clear b3 HF HB
        unfold agB
        have y9 := Blk.new w3 [.int .i64 (yu : Int), .int .i64 (nx : Int), .string ⟨y.name.toArray⟩] 111
        have z0 := y9.cell (i := 0) rfl
        have z1 := y9.cell (i := 1) rfl
        have z2 := y9.cell (i := 2) rfl
        have H4 := Lib.hid (H3.out.after ((Below.refl _ w3).alloc (Nat.le_refl _) (.cells #[.int .i64 (yu : Int), .int .i64 (nx : Int), .string ⟨y.name.toArray⟩] 111)))
        by_cases hyl : y.name = l
        · have HYL := Lib.hid hyl
          subst hyl
          have r0 := H4.out.box.cell (i := 0) rfl
          have r1 := H4.out.box.cell (i := 1) rfl
          have r2 := H4.out.box.cell (i := 2) rfl
          have r3 := H4.out.box.cell (i := 3) rfl
          have r4 := H4.out.box.cell (i := 4) rfl
          have r5 := H4.out.box.cell (i := 5) rfl
          have fr := fun i => H4.out.box.frozen i
          go_wp2
          have k6 := six_end (n := w.heap.size) H4.out.box (Nat.le_refl _) rfl (.int .i64 (c : Int)) (.int .i64 (a : Int)) (.int .i64 (hd : Int)) (.int .i64 (yu : Int)) (.int .i64 (nx : Int)) (.string ⟨y.name.toArray⟩)
          clear r0 r1 r2 r3 r4 r5 fr z0 z1 z2 y9
          generalize World.setCell _ _ _ = W6 at k6 ⊢
          obtain ⟨k6, hb6⟩ := k6
          have hb7 := H4.out.bel.trans hb6
          have q0 := k6.cell (i := 0) rfl
          have q1 := k6.cell (i := 1) rfl
          have q2 := k6.cell (i := 2) rfl
          have q3 := k6.cell (i := 3) rfl
          have q4 := k6.cell (i := 4) rfl
          have q5 := k6.cell (i := 5) rfl
          exact bodyPost_ret (v := .tuple #[.agg #[.int .i64 (c : Int), .int .i64 (a : Int), .int .i64 (hd : Int), .int .i64 (yu : Int), .int .i64 (nx : Int), .string ⟨y.name.toArray⟩], .bool true]) (by simp [results, Tryd.results74, go_sem, q0, q1, q2, q3, q4, q5]) rfl ⟨H.out.lx hb7, hb7, .inr ⟨P, y, R', by rw [HC.out, HS.out], rfl, by rw [HC.out, ← HA.out, HYU.out, HNX.out, show y.id = hd from HD.out.symm]; rfl⟩⟩
        · have hne : (y.name == l) = false := by simpa using hyl
          have HYL := Lib.hid hyl
          go_wp2
          go_quiet (fail)
          go_wp2
          go_roundw
          case rel => exact ⟨k + 1, hd, nx, P ++ [y], R', by go_num, rfl, rfl, by omega, Lib.hid (by rw [lastId_snoc, HD.out]; rfl), Lib.hid HNX.out.symm, Lib.hid (by rw [HS.out]; simp), Lib.hid (by rw [List.length_append, HP.out]; rfl), Lib.hid (fun e he => by
            rcases List.mem_append.1 he with he | he
            · exact HN.out e he
            · rw [List.mem_singleton] at he; subst he; exact HYL.out), Lib.hid (H4.out.after (below_dr _ nq))⟩
          case measure => simp [intOf]; omega
    · have hRn : R = [] := by
        have h1 := HI.out.most c hcn
        rw [HS.out, List.length_append, HP.out] at h1
        cases R with
        | nil => rfl
        | cons y r => simp at h1; omega
      subst hRn
      have r0 := HF.out.box.cell (i := 0) rfl
      have r1 := HF.out.box.cell (i := 1) rfl
      have r2 := HF.out.box.cell (i := 2) rfl
      have r3 := HF.out.box.cell (i := 3) rfl
      have r4 := HF.out.box.cell (i := 4) rfl
      have r5 := HF.out.box.cell (i := 5) rfl
      have fr := fun i => HF.out.box.frozen i
      go_wp2
      have k6 := six_end (n := w.heap.size) HF.out.box (Nat.le_refl _) rfl (.int .i64 0) (.int .i64 0) (.int .i64 0) (.int .i64 0) (.int .i64 0) (.string ⟨#[]⟩)
      clear r0 r1 r2 r3 r4 r5 fr
      generalize World.setCell _ _ _ = W6 at k6 ⊢
      obtain ⟨k6, hb6⟩ := k6
      have hb7 := HF.out.bel.trans hb6
      have q0 := k6.cell (i := 0) rfl
      have q1 := k6.cell (i := 1) rfl
      have q2 := k6.cell (i := 2) rfl
      have q3 := k6.cell (i := 3) rfl
      have q4 := k6.cell (i := 4) rfl
      have q5 := k6.cell (i := 5) rfl
      exact bodyPost_ret (v := .tuple #[.agg #[.int .i64 0, .int .i64 0, .int .i64 0, .int .i64 0, .int .i64 0, .string ⟨#[]⟩], .bool false]) (by simp [results, Tryd.results74, go_sem, q0, q1, q2, q3, q4, q5]) rfl ⟨H.out.lx hb7, hb7, .inl ⟨by rw [HC.out, HS.out]; rw [List.append_nil]; exact HN.out, rfl⟩⟩
end Go.Proofs.YtbmppnfliiiobaaDoor

/- Package intern: what has an id. -/
set_option maxRecDepth 100000
namespace Go.Proofs.YtbmppnfliiiobaaDoor
open Go.RowKit Go.Shelf
attribute [local go_sem] Oper.semAt_some
theorem nodup_at {l : List Ent} (h : (l.map Ent.name).Nodup) {P R : List Ent} {y z : Ent} (e : l = P ++ z :: R) (hy : y ∈ l) (hn : z.name = y.name) : z = y := by
  subst e
  unfold List.Nodup at h
  rw [List.pairwise_map, List.pairwise_append, List.pairwise_cons] at h
  rcases List.mem_append.1 hy with hy | hy
  · exact absurd hn.symm (h.2.2 y hy z (by simp))
  · rcases List.mem_cons.1 hy with rfl | hy
    · rfl
    · exact absurd hn (h.2.1.1 y hy)
def HeldYes (x : Nat → Prop) (A B : Nat) (C : Nat → List Ent) (L : List Bl) (n0 c : Nat) (y : Ent) (w : World) (e : Ending) (w' : World) : Prop :=
  LX x A B L n0 w w' ∧ Below w.heap.size w w' ∧ ∃ P R, C c = P ++ y :: R ∧ e = .returned (.tuple #[entV c (lastId P) y.id y.uses (headId R) y.name, .bool true])
theorem find_yes (x : Nat → Prop) (t : TB) (B nn cnt : Nat) (C : Nat → List Ent) (F : List Nat) (L : List Bl) (n0 c : Nat) (y : Ent) (w : World) (h : HX x t.A B L n0 w) (ht : TbE x t F cnt w) (I : TI nn C F cnt L) (hc : c < nn) (hy : y ∈ C c) :
    Calls Tryd.prog 74 #[.pointer (some ⟨t.T, 0, none⟩), .string ⟨y.name.toArray⟩] w (HeldYes x t.A B C L n0 c y w) := by
  have hs := I.small c hc y hy
  have hh := I.hash c hc y hy
  refine (find_any x t B nn cnt C F L n0 y.name w h ht I (by omega)).mono fun e w' ⟨hL, hb, hk⟩ => ⟨hL, hb, ?_⟩
  rw [hh] at hk
  rcases hk with ⟨h1, _⟩ | ⟨P, z, R, e1, e2, he⟩
  · exact absurd rfl (h1 y hy)
  · obtain rfl := nodup_at (I.names c hc) e1 hy e2
    exact ⟨P, R, e1, he⟩
theorem find_no (x : Nat → Prop) (t : TB) (B nn cnt : Nat) (C : Nat → List Ent) (F : List Nat) (L : List Bl) (n0 : Nat) (l : List UInt8) (w : World) (h : HX x t.A B L n0 w) (ht : TbE x t F cnt w) (I : TI nn C F cnt L) (hl : l.length ≤ 1000000) (hn : ∀ c, c < nn → ∀ e ∈ C c, e.name ≠ l) :
    Calls Tryd.prog 74 #[.pointer (some ⟨t.T, 0, none⟩), .string ⟨l.toArray⟩] w fun e w' => e = .returned (.tuple #[entV 0 0 0 0 0 [], .bool false]) ∧ LX x t.A B L n0 w w' ∧ Below w.heap.size w w' := by
  refine (find_any x t B nn cnt C F L n0 l w h ht I hl).mono fun e w' ⟨hL, hb, hk⟩ => ?_
  rcases hk with ⟨_, he⟩ | ⟨P, z, R, e1, e2, he⟩
  · exact ⟨he, hL, hb⟩
  · exact absurd e2 (hn _ (Nat.mod_lt _ I.pos) z (by rw [e1]; simp))
theorem TI.mem {nn cnt : Nat} {C : Nat → List Ent} {F : List Nat} {L : List Bl} (I : TI nn C F cnt L) {c : Nat} (hc : c < nn) {y : Ent} (hy : y ∈ C c) : ∃ nx, nx < 2147483648 ∧ (y.id, blkE y.uses nx y.name) ∈ L := by
  obtain ⟨P, R, e⟩ := List.append_of_mem hy
  exact ⟨headId R, headId_lt fun z hz => (I.small c hc z (by rw [e]; simp [hz])).2.1, linked_app (P := P) (by rw [← e]; exact I.link c hc)⟩
set_option maxHeartbeats 16000000 in
theorem held_yes (x : Nat → Prop) (t : TB) (B nn cnt : Nat) (C : Nat → List Ent) (F : List Nat) (L : List Bl) (n0 c : Nat) (y : Ent) (z : Int) (w : World) (h : HX x t.A B L n0 w) (ht : TbE x t F cnt w) (I : TI nn C F cnt L) (hc : c < nn) (hy : y ∈ C c) (hz : z = (y.id : Int)) :
    Calls Tryd.prog 78 #[.pointer (some ⟨t.T, 0, none⟩), .int .i64 z] w (HeldYes x t.A B C L n0 c y w) := by
  subst hz
  have h0 : FiSt x t B F cnt L n0 w (w.alloc (.cells #[.int .i64 0, .int .i64 0, .int .i64 0, .int .i64 0, .int .i64 0, .string ⟨#[]⟩] 113)) := by
    have hb : Below w.heap.size w (w.alloc (.cells #[.int .i64 0, .int .i64 0, .int .i64 0, .int .i64 0, .int .i64 0, .string ⟨#[]⟩] 113)) := (Below.refl _ w).alloc (Nat.le_refl _) _
    exact ⟨h.after hb, ht.below hb, Blk.new w _ _, hb⟩
  have H0 := Lib.hid h0
  have H := Lib.hid h
  have HI := Lib.hid I
  obtain ⟨nx, hnx, hmem⟩ := I.mem hc hy
  obtain ⟨hyu, hyi, hyn⟩ := I.small c hc y hy
  obtain ⟨d1, d2, d3⟩ := dec_blk y.uses nx y.name (by omega) (by omega)
  have hln := I.len
  have hB := iblock_some x t B F.length cnt L (y.id, blkE y.uses nx y.name) n0 (y.id : Int) _ h0.hx h0.tb.box hmem rfl (by simp only [blkE_len]; omega)
  unfold BlockYes at hB
  simp only [d1, d2, d3] at hB
  have HB := Lib.hid hB
  have HFD := Lib.hid (fun W (k : FiSt x t B F cnt L n0 w W) => find_yes x t B nn cnt C F L n0 c y W k.hx k.tb I hc hy)
  clear h0 h ht I hB hmem d1 d2 d3 hln hnx hyu hyi hyn
  obtain ⟨A, T, FF⟩ := t
  simp only at HB HFD
  go_enter Tryd.func78, Tryd.ntmps78
  go_wp2_with fail
  refine HB.out.mono ?_
  rintro e w3 ⟨rfl, _, b3⟩
  have H3 := Lib.hid (H0.out.after b3)
  clear b3 HB H0
  unfold agB
  have y9 := Blk.new w3 [.int .i64 (y.uses : Int), .int .i64 (nx : Int), .string ⟨y.name.toArray⟩] 111
  have z2 := y9.cell (i := 2) rfl
  have H4 := Lib.hid (H3.out.after ((Below.refl _ w3).alloc (Nat.le_refl _) (.cells #[.int .i64 (y.uses : Int), .int .i64 (nx : Int), .string ⟨y.name.toArray⟩] 111)))
  go_wp2_with fail
  refine (HFD.out _ H4.out).mono ?_
  rintro e w5 ⟨_, b5, P, R, hPR, rfl⟩
  have H5 := Lib.hid (H4.out.after b5)
  have HPR := Lib.hid hPR
  clear b5 hPR y9 z2 H4 H3
  obtain ⟨a, ha⟩ : ∃ a, lastId P = a := ⟨_, rfl⟩
  obtain ⟨hr, hhr⟩ : ∃ hr, headId R = hr := ⟨_, rfl⟩
  rw [ha, hhr]
  have HA := Lib.hid ha
  have HHR := Lib.hid hhr
  clear ha hhr
  unfold entV
  have y8 := Blk.new w5 [.int .i64 (c : Int), .int .i64 (a : Int), .int .i64 (y.id : Int), .int .i64 (y.uses : Int), .int .i64 (hr : Int), .string ⟨y.name.toArray⟩] 113
  have z0 := y8.cell (i := 0) rfl
  have z1 := y8.cell (i := 1) rfl
  have z2 := y8.cell (i := 2) rfl
  have z3 := y8.cell (i := 3) rfl
  have z4 := y8.cell (i := 4) rfl
  have z5 := y8.cell (i := 5) rfl
  have H6 := Lib.hid (H5.out.after ((Below.refl _ w5).alloc (Nat.le_refl _) (.cells #[.int .i64 (c : Int), .int .i64 (a : Int), .int .i64 (y.id : Int), .int .i64 (y.uses : Int), .int .i64 (hr : Int), .string ⟨y.name.toArray⟩] 113)))
  have r0 := H6.out.box.cell (i := 0) rfl
  have r1 := H6.out.box.cell (i := 1) rfl
  have r2 := H6.out.box.cell (i := 2) rfl
  have r3 := H6.out.box.cell (i := 3) rfl
  have r4 := H6.out.box.cell (i := 4) rfl
  have r5 := H6.out.box.cell (i := 5) rfl
  have fr := fun i => H6.out.box.frozen i
  go_wp2
  have k6 := six_end (n := w.heap.size) H6.out.box (Nat.le_refl _) rfl (.int .i64 (c : Int)) (.int .i64 (a : Int)) (.int .i64 (y.id : Int)) (.int .i64 (y.uses : Int)) (.int .i64 (hr : Int)) (.string ⟨y.name.toArray⟩)
  clear r0 r1 r2 r3 r4 r5 fr z0 z1 z2 z3 z4 z5 y8
  generalize World.setCell _ _ _ = W6 at k6 ⊢
  obtain ⟨k6, hb6⟩ := k6
  have hb7 := H6.out.bel.trans hb6
  have q0 := k6.cell (i := 0) rfl
  have q1 := k6.cell (i := 1) rfl
  have q2 := k6.cell (i := 2) rfl
  have q3 := k6.cell (i := 3) rfl
  have q4 := k6.cell (i := 4) rfl
  have q5 := k6.cell (i := 5) rfl
  exact bodyPost_ret (v := .tuple #[.agg #[.int .i64 (c : Int), .int .i64 (a : Int), .int .i64 (y.id : Int), .int .i64 (y.uses : Int), .int .i64 (hr : Int), .string ⟨y.name.toArray⟩], .bool true]) (by simp [results, Tryd.results78, go_sem, q0, q1, q2, q3, q4, q5]) rfl ⟨H.out.lx hb7, hb7, P, R, HPR.out, by rw [HA.out, HHR.out]; rfl⟩
set_option maxHeartbeats 16000000 in
theorem held_no (x : Nat → Prop) (t : TB) (B : Nat) (cnt : Nat) (F : List Nat) (L : List Bl) (n0 : Nat) (z : Int) (w : World) (h : HX x t.A B L n0 w) (ht : TbE x t F cnt w) (hz : ∀ b ∈ L, (b.1 : Int) ≠ z) :
    Calls Tryd.prog 78 #[.pointer (some ⟨t.T, 0, none⟩), .int .i64 z] w fun e w' => e = .returned (.tuple #[entV 0 0 0 0 0 [], .bool false]) ∧ LX x t.A B L n0 w w' ∧ Below w.heap.size w w' := by
  have h0 : FiSt x t B F cnt L n0 w (w.alloc (.cells #[.int .i64 0, .int .i64 0, .int .i64 0, .int .i64 0, .int .i64 0, .string ⟨#[]⟩] 113)) := by
    have hb : Below w.heap.size w (w.alloc (.cells #[.int .i64 0, .int .i64 0, .int .i64 0, .int .i64 0, .int .i64 0, .string ⟨#[]⟩] 113)) := (Below.refl _ w).alloc (Nat.le_refl _) _
    exact ⟨h.after hb, ht.below hb, Blk.new w _ _, hb⟩
  have H0 := Lib.hid h0
  have H := Lib.hid h
  have HB := Lib.hid (iblock_none x t B F.length cnt L n0 z _ h0.hx h0.tb.box hz)
  clear h0 h ht hz
  obtain ⟨A, T, FF⟩ := t
  simp only at HB
  go_enter Tryd.func78, Tryd.ntmps78
  go_wp2_with fail
  refine HB.out.mono ?_
  rintro e w3 ⟨rfl, _, b3⟩
  have H3 := Lib.hid (H0.out.after b3)
  clear b3 HB H0
  unfold agB
  have H6 := Lib.hid (H3.out.after ((Below.refl _ w3).alloc (Nat.le_refl _) (.cells #[.int .i64 0, .int .i64 0, .string ⟨#[]⟩] 111)))
  have r0 := H6.out.box.cell (i := 0) rfl
  have r1 := H6.out.box.cell (i := 1) rfl
  have r2 := H6.out.box.cell (i := 2) rfl
  have r3 := H6.out.box.cell (i := 3) rfl
  have r4 := H6.out.box.cell (i := 4) rfl
  have r5 := H6.out.box.cell (i := 5) rfl
  have fr := fun i => H6.out.box.frozen i
  go_wp2
  have k6 := six_end (n := w.heap.size) H6.out.box (Nat.le_refl _) rfl (.int .i64 0) (.int .i64 0) (.int .i64 0) (.int .i64 0) (.int .i64 0) (.string ⟨#[]⟩)
  clear r0 r1 r2 r3 r4 r5 fr
  generalize World.setCell _ _ _ = W6 at k6 ⊢
  obtain ⟨k6, hb6⟩ := k6
  have hb7 := H6.out.bel.trans hb6
  have q0 := k6.cell (i := 0) rfl
  have q1 := k6.cell (i := 1) rfl
  have q2 := k6.cell (i := 2) rfl
  have q3 := k6.cell (i := 3) rfl
  have q4 := k6.cell (i := 4) rfl
  have q5 := k6.cell (i := 5) rfl
  exact bodyPost_ret (v := .tuple #[.agg #[.int .i64 0, .int .i64 0, .int .i64 0, .int .i64 0, .int .i64 0, .string ⟨#[]⟩], .bool false]) (by simp [results, Tryd.results78, go_sem, q0, q1, q2, q3, q4, q5]) rfl ⟨rfl, H.out.lx hb7, hb7⟩
end Go.Proofs.YtbmppnfliiiobaaDoor

/- Package intern: Name, Uses, Find, Count. -/
set_option maxRecDepth 100000
namespace Go.Proofs.YtbmppnfliiiobaaDoor
open Go.RowKit Go.Shelf
attribute [local go_sem] Oper.semAt_some
set_option maxHeartbeats 8000000 in
theorem name_yes (x : Nat → Prop) (t : TB) (B nn cnt : Nat) (C : Nat → List Ent) (F : List Nat) (L : List Bl) (n0 c : Nat) (y : Ent) (z : Int) (w : World) (h : HX x t.A B L n0 w) (ht : TbE x t F cnt w) (I : TI nn C F cnt L) (hc : c < nn) (hy : y ∈ C c) (hz : z = (y.id : Int)) :
    Calls Tryd.prog 71 #[.pointer (some ⟨t.T, 0, none⟩), .int .i64 z] w fun e w' => e = .returned (.tuple #[.string ⟨y.name.toArray⟩, .bool true]) ∧ LX x t.A B L n0 w w' ∧ Below w.heap.size w w' := by
  have H := Lib.hid h
  have HH := Lib.hid (held_yes x t B nn cnt C F L n0 c y z w h ht I hc hy hz)
  clear h ht I hy hz
  obtain ⟨A, T, FF⟩ := t
  simp only at HH
  go_enter Tryd.func71, Tryd.ntmps71
  go_wp2_with fail
  refine HH.out.mono ?_
  rintro e w5 ⟨_, b5, P, R, hPR, rfl⟩
  have hb7 := b5.alloc b5.size (.cells #[.int .i64 (c : Int), .int .i64 ((lastId P : Nat) : Int), .int .i64 (y.id : Int), .int .i64 (y.uses : Int), .int .i64 ((headId R : Nat) : Int), .string ⟨y.name.toArray⟩] 113)
  have HB7 := Lib.hid hb7
  clear hb7 b5 hPR
  unfold entV
  have y8 := Blk.new w5 [.int .i64 (c : Int), .int .i64 ((lastId P : Nat) : Int), .int .i64 (y.id : Int), .int .i64 (y.uses : Int), .int .i64 ((headId R : Nat) : Int), .string ⟨y.name.toArray⟩] 113
  have z2 := y8.cell (i := 2) rfl
  have z3 := y8.cell (i := 3) rfl
  have z5 := y8.cell (i := 5) rfl
  go_wp2
  go_ret2
  exact ⟨rfl, H.out.lx HB7.out, HB7.out⟩
set_option maxHeartbeats 8000000 in
theorem name_no (x : Nat → Prop) (t : TB) (B : Nat) (cnt : Nat) (F : List Nat) (L : List Bl) (n0 : Nat) (z : Int) (w : World) (h : HX x t.A B L n0 w) (ht : TbE x t F cnt w) (hz : ∀ b ∈ L, (b.1 : Int) ≠ z) :
    Calls Tryd.prog 71 #[.pointer (some ⟨t.T, 0, none⟩), .int .i64 z] w fun e w' => e = .returned (.tuple #[.string ⟨#[]⟩, .bool false]) ∧ LX x t.A B L n0 w w' ∧ Below w.heap.size w w' := by
  have H := Lib.hid h
  have HH := Lib.hid (held_no x t B cnt F L n0 z w h ht hz)
  clear h ht hz
  obtain ⟨A, T, FF⟩ := t
  simp only at HH
  go_enter Tryd.func71, Tryd.ntmps71
  go_wp2_with fail
  refine HH.out.mono ?_
  rintro e w5 ⟨rfl, _, b5⟩
  have hb7 := b5.alloc b5.size (.cells #[.int .i64 0, .int .i64 0, .int .i64 0, .int .i64 0, .int .i64 0, .string ⟨#[]⟩] 113)
  have HB7 := Lib.hid hb7
  clear hb7 b5
  unfold entV
  have y8 := Blk.new w5 [.int .i64 0, .int .i64 0, .int .i64 0, .int .i64 0, .int .i64 0, .string ⟨#[]⟩] 113
  have z2 := y8.cell (i := 2) rfl
  have z3 := y8.cell (i := 3) rfl
  have z5 := y8.cell (i := 5) rfl
  go_wp2
  go_ret2
  exact ⟨rfl, H.out.lx HB7.out, HB7.out⟩
set_option maxHeartbeats 8000000 in
theorem uses_yes (x : Nat → Prop) (t : TB) (B nn cnt : Nat) (C : Nat → List Ent) (F : List Nat) (L : List Bl) (n0 c : Nat) (y : Ent) (z : Int) (w : World) (h : HX x t.A B L n0 w) (ht : TbE x t F cnt w) (I : TI nn C F cnt L) (hc : c < nn) (hy : y ∈ C c) (hz : z = (y.id : Int)) :
    Calls Tryd.prog 47 #[.pointer (some ⟨t.T, 0, none⟩), .int .i64 z] w fun e w' => e = .returned (.int .i64 (y.uses : Int)) ∧ LX x t.A B L n0 w w' ∧ Below w.heap.size w w' := by
  have H := Lib.hid h
  have HH := Lib.hid (held_yes x t B nn cnt C F L n0 c y z w h ht I hc hy hz)
  clear h ht I hy hz
  obtain ⟨A, T, FF⟩ := t
  simp only at HH
  go_enter Tryd.func47, Tryd.ntmps47
  go_wp2_with fail
  refine HH.out.mono ?_
  rintro e w5 ⟨_, b5, P, R, hPR, rfl⟩
  have hb7 := b5.alloc b5.size (.cells #[.int .i64 (c : Int), .int .i64 ((lastId P : Nat) : Int), .int .i64 (y.id : Int), .int .i64 (y.uses : Int), .int .i64 ((headId R : Nat) : Int), .string ⟨y.name.toArray⟩] 113)
  have HB7 := Lib.hid hb7
  clear hb7 b5 hPR
  unfold entV
  have y8 := Blk.new w5 [.int .i64 (c : Int), .int .i64 ((lastId P : Nat) : Int), .int .i64 (y.id : Int), .int .i64 (y.uses : Int), .int .i64 ((headId R : Nat) : Int), .string ⟨y.name.toArray⟩] 113
  have z2 := y8.cell (i := 2) rfl
  have z3 := y8.cell (i := 3) rfl
  have z5 := y8.cell (i := 5) rfl
  go_wp2
  go_ret
  exact ⟨rfl, H.out.lx HB7.out, HB7.out⟩
set_option maxHeartbeats 8000000 in
theorem uses_no (x : Nat → Prop) (t : TB) (B : Nat) (cnt : Nat) (F : List Nat) (L : List Bl) (n0 : Nat) (z : Int) (w : World) (h : HX x t.A B L n0 w) (ht : TbE x t F cnt w) (hz : ∀ b ∈ L, (b.1 : Int) ≠ z) :
    Calls Tryd.prog 47 #[.pointer (some ⟨t.T, 0, none⟩), .int .i64 z] w fun e w' => e = .returned (.int .i64 0) ∧ LX x t.A B L n0 w w' ∧ Below w.heap.size w w' := by
  have H := Lib.hid h
  have HH := Lib.hid (held_no x t B cnt F L n0 z w h ht hz)
  clear h ht hz
  obtain ⟨A, T, FF⟩ := t
  simp only at HH
  go_enter Tryd.func47, Tryd.ntmps47
  go_wp2_with fail
  refine HH.out.mono ?_
  rintro e w5 ⟨rfl, _, b5⟩
  have hb7 := b5.alloc b5.size (.cells #[.int .i64 0, .int .i64 0, .int .i64 0, .int .i64 0, .int .i64 0, .string ⟨#[]⟩] 113)
  have HB7 := Lib.hid hb7
  clear hb7 b5
  unfold entV
  have y8 := Blk.new w5 [.int .i64 0, .int .i64 0, .int .i64 0, .int .i64 0, .int .i64 0, .string ⟨#[]⟩] 113
  have z2 := y8.cell (i := 2) rfl
  have z3 := y8.cell (i := 3) rfl
  have z5 := y8.cell (i := 5) rfl
  go_wp2
  go_ret
  exact ⟨rfl, H.out.lx HB7.out, HB7.out⟩
set_option maxHeartbeats 8000000 in
theorem tfind_yes (x : Nat → Prop) (t : TB) (B nn cnt : Nat) (C : Nat → List Ent) (F : List Nat) (L : List Bl) (n0 c : Nat) (y : Ent) (n : List UInt8) (w : World) (h : HX x t.A B L n0 w) (ht : TbE x t F cnt w) (I : TI nn C F cnt L) (hc : c < nn) (hy : y ∈ C c) (hz : Nm.fold n = y.name) (hl : n.length ≤ 100000) :
    Calls Tryd.prog 41 #[.pointer (some ⟨t.T, 0, none⟩), .string ⟨n.toArray⟩] w fun e w' => e = .returned (.tuple #[.int .i64 (y.id : Int), .bool true]) ∧ LX x t.A B L n0 w w' ∧ Below w.heap.size w w' := by
  have H := Lib.hid h
  have HFO := Lib.hid (by have k := fold_any n w hl; rw [hz] at k; exact k)
  have HH := Lib.hid (fun W (hb : Below w.heap.size w W) => find_yes x t B nn cnt C F L n0 c y W (h.after hb) (ht.below hb) I hc hy)
  clear h ht I hy hz
  obtain ⟨A, T, FF⟩ := t
  simp only at HH
  go_enter Tryd.func41, Tryd.ntmps41
  go_wp2_with fail
  refine HFO.out.mono ?_
  rintro e w4 ⟨rfl, b4'⟩
  have HB4 := Lib.hid b4'
  clear b4'
  go_wp2_with fail
  refine (HH.out _ HB4.out).mono ?_
  rintro e w5 ⟨_, b5, P, R, hPR, rfl⟩
  have hb5 := HB4.out.trans (b5.mono HB4.out.size)
  have hb7 := hb5.alloc hb5.size (.cells #[.int .i64 (c : Int), .int .i64 ((lastId P : Nat) : Int), .int .i64 (y.id : Int), .int .i64 (y.uses : Int), .int .i64 ((headId R : Nat) : Int), .string ⟨y.name.toArray⟩] 113)
  have HB7 := Lib.hid hb7
  clear hb7 b5 hb5 hPR
  unfold entV
  have y8 := Blk.new w5 [.int .i64 (c : Int), .int .i64 ((lastId P : Nat) : Int), .int .i64 (y.id : Int), .int .i64 (y.uses : Int), .int .i64 ((headId R : Nat) : Int), .string ⟨y.name.toArray⟩] 113
  have z2 := y8.cell (i := 2) rfl
  go_wp2
  go_ret2
  exact ⟨rfl, H.out.lx HB7.out, HB7.out⟩
set_option maxHeartbeats 8000000 in
theorem tfind_no (x : Nat → Prop) (t : TB) (B nn cnt : Nat) (C : Nat → List Ent) (F : List Nat) (L : List Bl) (n0 : Nat) (n : List UInt8) (w : World) (h : HX x t.A B L n0 w) (ht : TbE x t F cnt w) (I : TI nn C F cnt L) (hl : n.length ≤ 100000) (hfl : (Nm.fold n).length ≤ 1000000) (hn : ∀ c, c < nn → ∀ e ∈ C c, e.name ≠ Nm.fold n) :
    Calls Tryd.prog 41 #[.pointer (some ⟨t.T, 0, none⟩), .string ⟨n.toArray⟩] w fun e w' => e = .returned (.tuple #[.int .i64 0, .bool false]) ∧ LX x t.A B L n0 w w' ∧ Below w.heap.size w w' := by
  have H := Lib.hid h
  have HFO := Lib.hid (fold_any n w hl)
  have HH := Lib.hid (fun W (hb : Below w.heap.size w W) => find_no x t B nn cnt C F L n0 (Nm.fold n) W (h.after hb) (ht.below hb) I hfl hn)
  clear h ht I hn
  obtain ⟨A, T, FF⟩ := t
  simp only at HH
  go_enter Tryd.func41, Tryd.ntmps41
  go_wp2_with fail
  refine HFO.out.mono ?_
  rintro e w4 ⟨rfl, b4'⟩
  have HB4 := Lib.hid b4'
  clear b4'
  go_wp2_with fail
  refine (HH.out _ HB4.out).mono ?_
  rintro e w5 ⟨rfl, _, b5⟩
  have hb5 := HB4.out.trans (b5.mono HB4.out.size)
  have hb7 := hb5.alloc hb5.size (.cells #[.int .i64 0, .int .i64 0, .int .i64 0, .int .i64 0, .int .i64 0, .string ⟨#[]⟩] 113)
  have HB7 := Lib.hid hb7
  clear hb7 b5 hb5
  unfold entV
  have y8 := Blk.new w5 [.int .i64 0, .int .i64 0, .int .i64 0, .int .i64 0, .int .i64 0, .string ⟨#[]⟩] 113
  have z2 := y8.cell (i := 2) rfl
  go_wp2
  go_ret2
  exact ⟨rfl, H.out.lx HB7.out, HB7.out⟩
theorem count_any (x : Nat → Prop) (t : TB) (F : List Nat) (cnt : Nat) (w : World) (ht : TbE x t F cnt w) :
    Calls Tryd.prog 48 #[.pointer (some ⟨t.T, 0, none⟩)] w fun e w' => e = .returned (.int .i64 (cnt : Int)) ∧ w = w' := by
  obtain ⟨A, T, FF⟩ := t
  have c2 := ht.box.cell (i := 2) rfl
  unfold encI at c2
  go_enter Tryd.func48, Tryd.ntmps48
  go_wp2
  go_ret
  exact ⟨rfl, rfl⟩
end Go.Proofs.YtbmppnfliiiobaaDoor

/- Package intern: New, Cost. -/
set_option maxRecDepth 100000
namespace Go.Proofs.YtbmppnfliiiobaaDoor
open Go.RowKit Go.Shelf
attribute [local go_sem] Oper.semAt_some
theorem budget_x (x : Nat → Prop) (A B : Nat) (L : List Bl) (n0 : Nat) (w : World) (h : HX x A B L n0 w) : Calls Tryd.prog 68 #[.pointer (some ⟨A, 0, none⟩)] w fun e w' => e = .returned (.int .i64 (B : Int)) ∧ w = w' := by
  obtain ⟨bs, ⟨L', S, pcs, a, I, e, rfl⟩, hv⟩ := h.ex
  exact budget_any A L' S _ w a
def emptyF (B : Nat) : List Nat := List.replicate (1 + B / 64) 0
theorem tot_nil : ∀ n, tot (fun _ => []) n = 0
  | 0 => rfl
  | n + 1 => by unfold tot; rw [tot_nil n]; rfl
theorem ti_empty (B : Nat) (hB : B ≤ 1048576) (L : List Bl) : TI (1 + B / 64) (fun _ => []) (emptyF B) 0 L := by
  refine ⟨by omega, by omega, by simp [emptyF], fun c hc => ?_, fun _ _ => trivial, fun _ _ e he => (by cases he), fun _ _ => List.nodup_nil, tot_nil _, by omega, fun _ _ e he => (by cases he)⟩
  unfold emptyF
  rw [List.getElem?_replicate, if_pos hc]
  rfl
def INewRet (x : Nat → Prop) (A B : Nat) (L : List Bl) (n0 : Nat) (w : World) (e : Ending) (w' : World) : Prop :=
  ∃ T F, e = .returned (.pointer (some ⟨T, 0, none⟩)) ∧ HX (fun k => x k ∨ k = F ∨ k = T) A B L n0 w' ∧ TbE (fun k => x k ∨ k = F ∨ k = T) ⟨A, T, F⟩ (emptyF B) 0 w' ∧ Below w.heap.size w w'
theorem inew_end {x : Nat → Prop} {A B : Nat} {L : List Bl} {n0 : Nat} {w : World} (h : HX x A B L n0 w) (n : Nat) (hn : n = 1 + B / 64) :
    INewRet x A B L n0 w (.returned (.pointer (some ⟨w.heap.size + 1, 0, none⟩))) ((w.alloc (.cells (Array.replicate n (.int .i32 0)) 21)).alloc (.cells #[.pointer (some ⟨A, 0, none⟩), .slice (some ⟨w.heap.size, 0, none⟩) n n, .int .i64 0] 109)) := by
  subst hn
  have s1 : (w.alloc (.cells (Array.replicate (1 + B / 64) (.int .i32 0)) 21)).heap.size = w.heap.size + 1 := World.size_alloc _ _
  have h2 := (h.mine (.cells (Array.replicate (1 + B / 64) (.int .i32 0)) 21)).mine (.cells #[.pointer (some ⟨A, 0, none⟩), .slice (some ⟨w.heap.size, 0, none⟩) (1 + B / 64) (1 + B / 64), .int .i64 0] 109)
  have y1 := Blk.new w ((emptyF B).map encF) 21
  have e1 : ((emptyF B).map encF).toArray = Array.replicate (1 + B / 64) (.int .i32 0) := by unfold emptyF; rw [List.map_replicate, List.toArray_replicate]; rfl
  rw [e1] at y1
  have y2 := Blk.new (w.alloc (.cells (Array.replicate (1 + B / 64) (.int .i32 0)) 21)) (tbBox ⟨A, w.heap.size + 1, w.heap.size⟩ (1 + B / 64) 0) 109
  refine ⟨w.heap.size + 1, w.heap.size, rfl, h2.less (fun k e => by rcases e with e | e | e; exact .inl (.inl e); exact .inl (.inr e); exact .inr (by rw [s1]; exact e)), ⟨?_, y1.alloc _, .inr (.inr rfl), .inr (.inl rfl)⟩, ((Below.refl _ w).alloc (Nat.le_refl _) _).alloc (by rw [s1]; omega) _⟩
  rw [s1] at y2
  show Blk _ (w.heap.size + 1) (tbBox _ (emptyF B).length 0) _
  rw [show (emptyF B).length = 1 + B / 64 by simp [emptyF]]
  exact y2
set_option maxHeartbeats 8000000 in
theorem inew_any (x : Nat → Prop) (A B : Nat) (L : List Bl) (n0 : Nat) (w : World) (h : HX x A B L n0 w) :
    Calls Tryd.prog 35 #[.pointer (some ⟨A, 0, none⟩)] w (INewRet x A B L n0 w) := by
  have hB := h.sum_le.2
  have HBU := Lib.hid (budget_x x A B L n0 w h)
  obtain ⟨n, hn⟩ : ∃ n, n = 1 + B / 64 := ⟨_, rfl⟩
  have HE := Lib.hid (inew_end h n hn)
  have hmk := fun W => (by have h := make_one (e := 21) Tryd.underlying85 infoI32 (by decide) rfl (1 + (B : Int) / 64) n (by omega) (by omega) W; rw [List.toArray_replicate] at h; exact h : (Instr.makeSlice 85 (.int .i64 (1 + (B : Int) / 64)) (.int .i64 (1 + (B : Int) / 64))).run Tryd.prog W = .ok (.slice (some ⟨W.heap.size, 0, none⟩) n n) (W.alloc (.cells (Array.replicate n (.int .i32 0)) 21)))
  clear hn h
  go_enter Tryd.func35, Tryd.ntmps35
  go_wp2_with fail
  refine HBU.out.mono ?_
  rintro e w' ⟨rfl, rfl⟩
  go_wp2
  go_ret
  exact HE.out
/-- What a name would cost. -/
theorem cost_call (n : Nat) (z : Int) (w : World) (hz : z = 8 + (n : Int)) : Calls Tryd.prog 30 #[.int .i64 z] w fun e w' => e = .returned (.int .i64 (Ar.costI ((n + 8 : Nat) : Int) : Int)) ∧ w = w' := by
  subst hz
  have h := cost_any ((n + 8 : Nat) : Int) w
  rw [show ((n + 8 : Nat) : Int) = 8 + (n : Int) by omega] at h ⊢
  exact h
end Go.Proofs.YtbmppnfliiiobaaDoor

/- Package intern: a new name. -/
set_option maxRecDepth 100000
namespace Go.Proofs.YtbmppnfliiiobaaDoor
open Go.RowKit Go.Shelf
attribute [local go_sem] Oper.semAt_some
theorem linked_mono {L L' : List Bl} : ∀ {R : List Ent}, linked L R → (∀ e ∈ R, ∀ d, (e.id, d) ∈ L → (e.id, d) ∈ L') → linked L' R
  | [], _, _ => trivial
  | e :: r, h, hm => ⟨hm e (by simp) _ h.1, linked_mono h.2 fun z hz d hd => hm z (List.mem_cons_of_mem _ hz) d hd⟩
/-- One chain is another one. -/
theorem TI.chain {nn cnt cnt' : Nat} {C : Nat → List Ent} {F F' : List Nat} {L L' : List Bl} {c : Nat} {l : List Ent} (I : TI nn C F cnt L) (hc : c < nn) (hF : F' = F.set c (headId l)) (hcnt : cnt' + (C c).length = cnt + l.length) (hlim : cnt' ≤ 1000000) (hl : linked L' l) (ho : ∀ k, k < nn → k ≠ c → ∀ e ∈ C k, ∀ d, (e.id, d) ∈ L → (e.id, d) ∈ L')
    (hh : ∀ e ∈ l, hashN e.name % nn = c) (hn : (l.map Ent.name).Nodup) (hs : ∀ e ∈ l, e.uses < 2147483648 ∧ e.id < 2147483648 ∧ e.name.length ≤ 300) : TI nn (upd C c l) F' cnt' L' := by
  subst hF
  refine ⟨I.pos, I.lim, by rw [List.length_set]; exact I.len, fun k h => ?_, fun k h => ?_, fun k h e he => ?_, fun k h => ?_, ?_, hlim, fun k h e he => ?_⟩
  · rw [List.getElem?_set]
    by_cases e : k = c
    · subst e
      rw [if_pos rfl, if_pos (by rw [I.len]; exact h), upd_same]
    · rw [if_neg (fun e' => e e'.symm), I.first k h, upd_other e]
  · by_cases e : k = c
    · subst e; rw [upd_same]; exact hl
    · rw [upd_other e]
      exact linked_mono (I.link k h) fun z hz d hd => ho k h e z hz d hd
  · by_cases e1 : k = c
    · subst e1; rw [upd_same] at he; exact hh e he
    · rw [upd_other e1] at he; exact I.hash k h e he
  · by_cases e1 : k = c
    · subst e1; rw [upd_same]; exact hn
    · rw [upd_other e1]; exact I.names k h
  · have := tot_upd (C := C) (l := l) hc
    have := I.count
    omega
  · by_cases e1 : k = c
    · subst e1; rw [upd_same] at he; exact hs e he
    · rw [upd_other e1] at he; exact I.small k h e he
theorem TI.push {nn cnt : Nat} {C : Nat → List Ent} {F : List Nat} {L1 L2 : List Bl} {id : Nat} {name : List UInt8} (I : TI nn C F cnt (L1 ++ L2)) (hi2 : id < 2147483648) (hn : name.length ≤ 300) (hnew : ∀ c, c < nn → ∀ e ∈ C c, e.name ≠ name) (hcnt : cnt < 1000000) :
    TI nn (upd C (hashN name % nn) (⟨id, 1, name⟩ :: C (hashN name % nn))) (F.set (hashN name % nn) id) (cnt + 1) (L1 ++ (id, blkE 1 (headId (C (hashN name % nn))) name) :: L2) := by
  have hc : hashN name % nn < nn := Nat.mod_lt _ I.pos
  have hmono : ∀ b, b ∈ L1 ++ L2 → b ∈ L1 ++ (id, blkE 1 (headId (C (hashN name % nn))) name) :: L2 := fun b hb => by rcases List.mem_append.1 hb with hb | hb <;> simp [hb]
  refine I.chain hc rfl (by rw [List.length_cons]; omega) (by omega) ⟨by simp, linked_mono (I.link _ hc) fun z _ d hd => hmono _ hd⟩ (fun k _ _ e _ d hd => hmono _ hd) (fun e he => ?_) ?_ (fun e he => ?_)
  · rcases List.mem_cons.1 he with rfl | he
    · rfl
    · exact I.hash _ hc e he
  · rw [List.map_cons, List.nodup_cons]
    refine ⟨fun hm => ?_, I.names _ hc⟩
    obtain ⟨z, hz, e2⟩ := List.mem_map.1 hm
    exact hnew _ hc z hz e2
  · rcases List.mem_cons.1 he with rfl | he
    · exact ⟨by simp only; omega, hi2, hn⟩
    · exact I.small _ hc e he
/-- Another number of uses. -/
theorem TI.use {nn cnt c u : Nat} {C : Nat → List Ent} {F : List Nat} {L1 L2 : List Bl} {P R : List Ent} {y : Ent} (I : TI nn C F cnt (L1 ++ (y.id, blkE y.uses (headId R) y.name) :: L2)) (hs : (L1 ++ (y.id, blkE y.uses (headId R) y.name) :: L2).Pairwise (fun a b => a.1 < b.1)) (hc : c < nn) (hC : C c = P ++ y :: R) (hu : u < 2147483648) :
    TI nn (upd C c (P ++ ⟨y.id, u, y.name⟩ :: R)) F cnt (L1 ++ (y.id, blkE u (headId R) y.name) :: L2) := by
  have hothers : ∀ k, k < nn → ∀ e ∈ C k, e.name ≠ y.name → ∀ d, (e.id, d) ∈ L1 ++ (y.id, blkE y.uses (headId R) y.name) :: L2 → (e.id, d) ∈ L1 ++ (y.id, blkE u (headId R) y.name) :: L2 := fun k hk e he hne d hd => by
    rcases List.mem_append.1 hd with hd | hd
    · simp [hd]
    · rcases List.mem_cons.1 hd with hd | hd
      · exfalso
        obtain ⟨nx, hnx, hm⟩ := I.mem hk he
        have h1 : e.id = y.id := (Prod.mk.inj hd).1
        have h2 := srt_mem hs hm (show (y.id, blkE y.uses (headId R) y.name) ∈ _ by simp) h1
        have h3 := congrArg (fun z => List.drop 8 z) (Prod.mk.inj h2).2
        exact hne h3
      · simp [hd]
  have hyC : y ∈ C c := by rw [hC]; simp
  have hnd := I.names c hc
  have hhd : headId (P ++ (⟨y.id, u, y.name⟩ : Ent) :: R) = headId (C c) := by rw [hC]; cases P <;> rfl
  have hFc : F = F.set c (headId (P ++ (⟨y.id, u, y.name⟩ : Ent) :: R)) := by
    rw [hhd]
    exact (set_same (I.first c hc)).symm
  have hne2 : ∀ e ∈ P ++ R, e.name ≠ y.name := fun e he hn => by
    rw [hC, List.map_append, List.map_cons, List.nodup_append] at hnd
    obtain ⟨_, h2, h3⟩ := hnd
    rw [List.nodup_cons] at h2
    rcases List.mem_append.1 he with he | he
    · exact h3 e.name (List.mem_map_of_mem he) y.name (by simp) hn
    · exact h2.1 (hn ▸ List.mem_map_of_mem he)
  refine I.chain hc hFc (by rw [hC]; simp) I.clim ?_ (fun k hk hkc e he d hd => hothers k hk e he (fun hn => hkc ?_) d hd) (fun e he => ?_) ?_ (fun e he => ?_)
  · have hl := I.link c hc
    rw [hC] at hl
    have key : ∀ (Q : List Ent), (∀ e ∈ Q, e.name ≠ y.name ∧ e ∈ C c) → linked (L1 ++ (y.id, blkE y.uses (headId R) y.name) :: L2) (Q ++ y :: R) → linked (L1 ++ (y.id, blkE u (headId R) y.name) :: L2) (Q ++ ⟨y.id, u, y.name⟩ :: R) := fun Q => by
      induction Q with
      | nil =>
        intro _ h
        exact ⟨by simp, linked_mono h.2 fun z hz d hd => hothers c hc z (by rw [hC]; simp [hz]) (hne2 z (by simp [hz])) d hd⟩
      | cons q Q ih =>
        intro hq h
        refine ⟨?_, ih (fun e he => hq e (List.mem_cons_of_mem _ he)) h.2⟩
        have hx := hothers c hc q (hq q (by simp)).2 (hq q (by simp)).1 _ h.1
        have he : headId (Q ++ (⟨y.id, u, y.name⟩ : Ent) :: R) = headId (Q ++ y :: R) := by cases Q <;> rfl
        show (q.id, blkE q.uses (headId (Q ++ (⟨y.id, u, y.name⟩ : Ent) :: R)) q.name) ∈ _
        rw [he]
        exact hx
    exact key P (fun e he => ⟨hne2 e (by simp [he]), by rw [hC]; simp [he]⟩) hl
  · rw [← I.hash k hk e he, hn]; exact I.hash c hc y hyC
  · rcases List.mem_append.1 he with he | he
    · exact I.hash c hc e (by rw [hC]; simp [he])
    · rcases List.mem_cons.1 he with rfl | he
      · exact I.hash c hc y hyC
      · exact I.hash c hc e (by rw [hC]; simp [he])
  · rw [hC] at hnd
    simpa using hnd
  · rcases List.mem_append.1 he with he | he
    · exact I.small c hc e (by rw [hC]; simp [he])
    · rcases List.mem_cons.1 he with rfl | he
      · have := I.small c hc y hyC
        exact ⟨hu, this.2⟩
      · exact I.small c hc e (by rw [hC]; simp [he])
/-- A call has changed the table, the arena and nothing else of the law's own. -/
structure LT (x : Nat → Prop) (t : TB) (F : List Nat) (cnt B : Nat) (L : List Bl) (n0 : Nat) (w w' : World) : Prop where
  at_ : HX x t.A B L n0 w'
  below : Below n0 w w'
  tb : TbE x t F cnt w'
  own : ∀ k, x k → k ≠ t.T → k ≠ t.F → w'.heap[k]? = w.heap[k]?
theorem LT.of {x : Nat → Prop} {t : TB} {F : List Nat} {cnt B : Nat} {L : List Bl} {n0 : Nat} {w w' : World} (k : LX x t.A B L n0 w w') (ht : TbE x t F cnt w) : LT x t F cnt B L n0 w w' :=
  ⟨k.at_, k.below, ht.lx k, fun j hj _ _ => k.own j hj⟩
theorem LT.putF {x : Nat → Prop} {t : TB} {F : List Nat} {cnt B : Nat} {L : List Bl} {n0 : Nat} {w w' : World} (h : LT x t F cnt B L n0 w w') (c id : Nat) : LT x t (F.set c id) cnt B L n0 w (w'.setCell ⟨t.F, c, none⟩ (encF id)) :=
  ⟨h.at_.put h.tb.xF c _, h.below.setCell (h.at_.xlow _ h.tb.xF) _, ⟨by rw [List.length_set]; exact h.tb.box.other (h.tb.box.ne h.tb.row (by decide)) c _, by rw [List.map_set]; exact h.tb.row.set c _, h.tb.xT, h.tb.xF⟩, fun k hk h1 h2 => (Below.heap_setCell w' ⟨t.F, c, none⟩ _ k h2).trans (h.own k hk h1 h2)⟩
theorem LT.putC {x : Nat → Prop} {t : TB} {F : List Nat} {cnt B : Nat} {L : List Bl} {n0 : Nat} {w w' : World} (h : LT x t F cnt B L n0 w w') (c : Nat) : LT x t F c B L n0 w (w'.setCell ⟨t.T, 2, none⟩ (encI c)) :=
  ⟨h.at_.put h.tb.xT 2 _, h.below.setCell (h.at_.xlow _ h.tb.xT) _, ⟨h.tb.box.set 2 _, h.tb.row.other (h.tb.box.ne h.tb.row (by decide)).symm 2 _, h.tb.xT, h.tb.xF⟩, fun k hk h1 h2 => (Below.heap_setCell w' ⟨t.T, 2, none⟩ _ k h1).trans (h.own k hk h1 h2)⟩
theorem LT.go {x : Nat → Prop} {t : TB} {F : List Nat} {cnt B : Nat} {L L' : List Bl} {n0 : Nat} {w w1 w2 : World} (h : LT x t F cnt B L n0 w w1) (k : LX x t.A B L' n0 w1 w2) : LT x t F cnt B L' n0 w w2 :=
  ⟨k.at_, h.below.trans k.below, h.tb.lx k, fun j hj h1 h2 => (k.own j hj).trans (h.own j hj h1 h2)⟩
theorem LT.after {x : Nat → Prop} {t : TB} {F : List Nat} {cnt B : Nat} {L : List Bl} {n0 : Nat} {w w1 w2 : World} (h : LT x t F cnt B L n0 w w1) (hb : Below w1.heap.size w1 w2) : LT x t F cnt B L n0 w w2 := h.go (h.at_.lx hb)
theorem least_le {x : Nat → Prop} {A B : Nat} {L1 L2 : List Bl} {n0 : Nat} {w : World} (h : HX x A B (L1 ++ L2) n0 w) : L1.length ≤ 65536 := by
  have hs := h.sum_le
  have h1 : ∀ (L : List Bl), (∀ b ∈ L, b.2.length ≤ 4096) → 16 * L.length ≤ sumC L := fun L => by
    induction L with
    | nil => intro _; simp [sumC]
    | cons b L ih =>
      intro hb
      have h2 := ih fun z hz => hb z (List.mem_cons_of_mem _ hz)
      have h3 := Ar.cost_ge b.2.length (hb b (by simp))
      rw [sumC_cons, List.length_cons]
      omega
  have h2 := h1 _ fun b hb => (h.each.2 b hb).2
  rw [List.length_append] at h2
  omega
def PutOk (x : Nat → Prop) (t : TB) (B nn cnt : Nat) (C : Nat → List Ent) (F : List Nat) (L : List Bl) (n0 : Nat) (l : List UInt8) (w : World) (e : Ending) (w' : World) : Prop :=
  ∃ L1 L2, L = L1 ++ L2 ∧ Least L1 L2 ∧ e = .returned (.tuple #[.int .i64 ((L1.length + 1 : Nat) : Int), .int .i64 0]) ∧ LT x t (F.set (hashN l % nn) (L1.length + 1)) (cnt + 1) B (L1 ++ (L1.length + 1, blkE 1 (headId (C (hashN l % nn))) l) :: L2) n0 w w'
set_option maxHeartbeats 16000000 in
theorem put_ok (x : Nat → Prop) (t : TB) (B nn cnt : Nat) (C : Nat → List Ent) (F : List Nat) (L : List Bl) (n0 : Nat) (l : List UInt8) (w : World) (h : HX x t.A B L n0 w) (ht : TbE x t F cnt w) (I : TI nn C F cnt L) (hl : l.length ≤ 300) (hc : sumC L + Ar.cost (l.length + 8) ≤ B) :
    Calls Tryd.prog 76 #[.pointer (some ⟨t.T, 0, none⟩), .string ⟨l.toArray⟩] w (PutOk x t B nn cnt C F L n0 l w) := by
  have c0 := ht.box.cell (i := 0) rfl
  have H := Lib.hid h
  have HI := Lib.hid I
  have HTB := Lib.hid ht
  have hpos := I.pos
  have hlim := I.lim
  have hlen := I.len
  have hclim := I.clim
  have HAL := Lib.hid (alloc_ok x t.A B L n0 (8 + (l.length : Int)) (l.length + 8) w (by omega) h (by omega) hc)
  clear h ht I hc
  obtain ⟨A, T, FF⟩ := t
  simp only at HAL
  go_enter Tryd.func76, Tryd.ntmps76
  go_wp2_with fail
  refine HAL.out.mono ?_
  rintro e w1 ⟨L1, L2, rfl, hle, rfl, h1⟩
  have H1 := Lib.hid (LT.of h1 HTB.out)
  have HLE := Lib.hid hle
  have hid := least_le H.out
  obtain ⟨id, hid2⟩ : ∃ id, L1.length + 1 = id := ⟨_, rfl⟩
  rw [hid2] at H1 ⊢
  have HID := Lib.hid hid2
  have hidl : id ≤ 65537 := by omega
  obtain ⟨c, hc⟩ : ∃ c, hashN l % nn = c := ⟨_, rfl⟩
  have hcn : c < nn := by rw [← hc]; exact Nat.mod_lt _ (by omega)
  have HC := Lib.hid hc
  have HCH := Lib.hid (fun W (k : Blk W T (tbBox ⟨A, T, FF⟩ nn cnt) 109) => by have z := chainOf_any ⟨A, T, FF⟩ nn cnt l W k (by omega) hpos hlim; rw [hc] at z; exact z)
  clear h1 hle hid hid2 hc c0 HAL
  subst hlen
  go_wp2_with fail
  refine (HCH.out _ H1.out.tb.box).mono ?_
  rintro e w2 ⟨rfl, hd⟩
  have H2 := Lib.hid (H1.out.after hd.below)
  clear hd H1 HCH
  have c1 := H2.out.tb.box.cell (i := 1) rfl
  have cf := H2.out.tb.row.cell (i := c) (v := .int .i32 ((headId (C c) : Nat) : Int)) (by rw [List.getElem?_map, HI.out.first c hcn]; rfl)
  have hh := headId_lt (R := C c) fun e he => (HI.out.small c hcn e he).2.1
  obtain ⟨hd, hhd⟩ : ∃ hd, headId (C c) = hd := ⟨_, rfl⟩
  rw [hhd] at cf hh
  have HHD := Lib.hid hhd
  have HH := Lib.hid hh
  clear hhd hh
  have hnn : c < F.length := hcn
  have hw1 : IntKind.i64.wrap (hd : Int) = (hd : Int) := IntWalk.i64_in _ (by have := HH.out; omega)
  go_wp2_with fail
  refine (write_any x ⟨A, T, FF⟩ B F.length cnt L1 L2 id (Ar.zeros (l.length + 8)) n0 1 hd l (id : Int) w2 rfl H2.out.at_ H2.out.tb.box (by rw [zeros_len]; omega) (by omega) (by omega) (by have := HH.out; omega)).mono ?_
  rintro e w5 ⟨rfl, h5⟩
  have H5 := Lib.hid (H2.out.go h5)
  clear h5 c1 cf hw1 H2
  have c1 := H5.out.tb.box.cell (i := 1) rfl
  have c2 := H5.out.tb.box.cell (i := 2) rfl
  have cT := H5.out.tb.box.frozen 2
  have cF := H5.out.tb.row.frozen c
  obtain ⟨v9, cf⟩ : ∃ v, w5.cell? ⟨FF, c, none⟩ = some v := ⟨_, H5.out.tb.row.cell (i := c) (by rw [List.getElem?_map, List.getElem?_eq_getElem hcn]; rfl)⟩
  have hTF : T ≠ FF := H5.out.tb.box.ne H5.out.tb.row (by decide)
  have hFT : FF ≠ T := hTF.symm
  have hwi : IntKind.i32.wrap (id : Int) = (id : Int) := IntWalk.i32_in _ (by omega)
  unfold encI at c2
  go_wp2
  go_ret2
  refine ⟨L1, L2, rfl, HLE.out, by rw [HID.out]; rfl, ?_⟩
  have k := (H5.out.putF c id).putC (cnt + 1)
  rw [show encI (cnt + 1) = .int .i64 ((cnt : Int) + 1) by unfold encI; norm_cast] at k
  rw [HC.out, HID.out, HHD.out]
  exact k
set_option maxHeartbeats 8000000 in
theorem put_full (x : Nat → Prop) (t : TB) (B cnt : Nat) (F : List Nat) (L : List Bl) (n0 : Nat) (l : List UInt8) (w : World) (h : HX x t.A B L n0 w) (ht : TbE x t F cnt w) (hl : l.length ≤ 300) (hc : B < sumC L + Ar.cost (l.length + 8)) :
    Calls Tryd.prog 76 #[.pointer (some ⟨t.T, 0, none⟩), .string ⟨l.toArray⟩] w fun e w' => e = .returned (.tuple #[.int .i64 0, .int .i64 4]) ∧ w = w' := by
  have c0 := ht.box.cell (i := 0) rfl
  have HAL := Lib.hid (alloc_no x t.A B L n0 (8 + (l.length : Int)) (l.length + 8) w (by omega) h (by omega) hc)
  clear h ht hc
  obtain ⟨A, T, FF⟩ := t
  simp only at HAL
  go_enter Tryd.func76, Tryd.ntmps76
  go_wp2_with fail
  refine HAL.out.mono ?_
  rintro e w1 ⟨rfl, rfl⟩
  go_wp2
  go_ret2
  exact ⟨rfl, rfl⟩
end Go.Proofs.YtbmppnfliiiobaaDoor

/- Package intern: Add. -/
set_option maxRecDepth 100000
namespace Go.Proofs.YtbmppnfliiiobaaDoor
open Go.RowKit Go.Shelf
attribute [local go_sem] Oper.semAt_some
theorem LX.less {x y : Nat → Prop} {A B : Nat} {L : List Bl} {n0 : Nat} {w w' : World} (h : LX y A B L n0 w w') (hy : ∀ k, x k → y k) : LX x A B L n0 w w' := ⟨h.at_.less hy, h.below, fun k hk => h.own k (hy k hk)⟩
theorem LX.from {x : Nat → Prop} {A B : Nat} {L : List Bl} {n0 : Nat} {w w1 w' : World} (h : HX x A B L n0 w) (hb : Below w.heap.size w w1) {L' : List Bl} (k : LX x A B L' n0 w1 w') : LX x A B L' n0 w w' := (h.lx hb).to k
def AddUp (x : Nat → Prop) (A B : Nat) (C : Nat → List Ent) (L : List Bl) (n0 c : Nat) (y : Ent) (u : Nat) (w : World) (w' : World) : Prop :=
  ∃ P R L1 L2, C c = P ++ y :: R ∧ L = L1 ++ (y.id, blkE y.uses (headId R) y.name) :: L2 ∧ LX x A B (L1 ++ (y.id, blkE u (headId R) y.name) :: L2) n0 w w'
set_option maxHeartbeats 16000000 in
theorem add_found (x : Nat → Prop) (t : TB) (B nn cnt : Nat) (C : Nat → List Ent) (F : List Nat) (L : List Bl) (n0 c : Nat) (y : Ent) (n : List UInt8) (w : World) (h : HX x t.A B L n0 w) (ht : TbE x t F cnt w) (I : TI nn C F cnt L) (hc : c < nn) (hy : y ∈ C c) (hv : Nm.valid n = true) (hz : Nm.fold n = y.name) (hl : n.length ≤ 100000) :
    Calls Tryd.prog 36 #[.pointer (some ⟨t.T, 0, none⟩), .string ⟨n.toArray⟩] w fun e w' => e = .returned (.tuple #[.int .i64 (y.id : Int), .int .i64 0]) ∧ AddUp x t.A B C L n0 c y (y.uses + 1) w w' := by
  have H := Lib.hid h
  have HTB := Lib.hid ht
  have HI := Lib.hid I
  have HV := Lib.hid (by have k := valid_any n w hl; rw [hv] at k; exact k)
  have HFO := Lib.hid (by have k := fold_any n w hl; rw [hz] at k; exact k)
  have HH := Lib.hid (fun W (hb : Below w.heap.size w W) => find_yes x t B nn cnt C F L n0 c y W (h.after hb) (ht.below hb) I hc hy)
  obtain ⟨hyu, hyi, hyn⟩ := I.small c hc y hy
  clear h ht I hv hz
  obtain ⟨A, T, FF⟩ := t
  simp only at HH
  go_enter Tryd.func36, Tryd.ntmps36
  go_wp2_with fail
  refine HV.out.mono ?_
  rintro e w' ⟨rfl, rfl⟩
  go_wp2_with fail
  refine HFO.out.mono ?_
  rintro e w4 ⟨rfl, b4'⟩
  have HB4 := Lib.hid b4'
  clear b4'
  go_wp2_with fail
  refine (HH.out _ HB4.out).mono ?_
  rintro e w5 ⟨_, b5, P, R, hPR, rfl⟩
  have hb5 := HB4.out.trans (b5.mono HB4.out.size)
  have HB5 := Lib.hid hb5
  have HPR := Lib.hid hPR
  clear b5 hb5 hPR
  obtain ⟨a, ha⟩ : ∃ a, lastId P = a := ⟨_, rfl⟩
  obtain ⟨hr, hhr⟩ : ∃ hr, headId R = hr := ⟨_, rfl⟩
  have hhl : hr < 2147483648 := by rw [← hhr]; exact headId_lt fun e he => (HI.out.small c hc e (by rw [HPR.out]; simp [he])).2.1
  have hmem : (y.id, blkE y.uses (headId R) y.name) ∈ L := linked_app (P := P) (by rw [← HPR.out]; exact HI.out.link c hc)
  rw [ha, hhr]
  rw [hhr] at hmem
  obtain ⟨L1, L2, hL⟩ := List.append_of_mem hmem
  have HL := Lib.hid hL
  have HHR := Lib.hid hhr
  have HHL := Lib.hid hhl
  clear ha hhr hhl hmem hL
  unfold entV
  have y8 := Blk.new w5 [.int .i64 (c : Int), .int .i64 (a : Int), .int .i64 (y.id : Int), .int .i64 (y.uses : Int), .int .i64 (hr : Int), .string ⟨y.name.toArray⟩] 113
  have z3 := y8.cell (i := 3) rfl
  have f3 := y8.frozen 3
  go_upto_region 9 with fail
  clear z3 f3 y8
  have hx7 := (H.out.after HB5.out).mine (.cells #[.int .i64 (c : Int), .int .i64 (a : Int), .int .i64 (y.id : Int), .int .i64 ((y.uses : Int) + 1), .int .i64 (hr : Int), .string ⟨y.name.toArray⟩] 113)
  have hb7 := HB5.out.alloc HB5.out.size (.cells #[.int .i64 (c : Int), .int .i64 (a : Int), .int .i64 (y.id : Int), .int .i64 ((y.uses : Int) + 1), .int .i64 (hr : Int), .string ⟨y.name.toArray⟩] 113)
  have y9 := Blk.new w5 [.int .i64 (c : Int), .int .i64 (a : Int), .int .i64 (y.id : Int), .int .i64 ((y.uses : Int) + 1), .int .i64 (hr : Int), .string ⟨y.name.toArray⟩] 113
  have hT7 := HTB.out.below hb7
  generalize hW7 : World.alloc _ _ = W7 at hx7 hb7 hT7 ⊢
  replace y9 : Blk W7 w5.heap.size [.int .i64 (c : Int), .int .i64 (a : Int), .int .i64 (y.id : Int), .int .i64 ((y.uses : Int) + 1), .int .i64 (hr : Int), .string ⟨y.name.toArray⟩] 113 := by rw [← hW7]; exact y9
  clear hW7
  have HX7 := Lib.hid hx7
  have HB7 := Lib.hid hb7
  have HT7 := Lib.hid hT7
  have Y9 := Lib.hid y9
  have z2 := y9.cell (i := 2) rfl
  have z3 := y9.cell (i := 3) rfl
  have z4 := y9.cell (i := 4) rfl
  have z5 := y9.cell (i := 5) rfl
  clear hx7 hb7 hT7 y9
  go_wp2_with fail
  refine (write_any (fun k => x k ∨ k = w5.heap.size) ⟨A, T, FF⟩ B F.length cnt L1 L2 y.id (blkE y.uses hr y.name) n0 (y.uses + 1) hr y.name (y.id : Int) W7 rfl (by rw [← HL.out]; exact HX7.out) HT7.out.box (by rw [blkE_len]) (by omega) (by omega) (by have := HHL.out; omega)).mono ?_
  rintro e w8 ⟨rfl, h8⟩
  have y8 := h8.blk (.inr rfl) Y9.out
  have z2 := y8.cell (i := 2) rfl
  have H8 := Lib.hid (LX.from H.out HB7.out (h8.less (x := x) (fun k hk => .inl hk)))
  clear h8 y8 z3 z4 z5
  go_wp2
  go_ret2
  exact ⟨rfl, P, R, L1, L2, HPR.out, by rw [HHR.out]; exact HL.out, by rw [HHR.out]; exact H8.out⟩
set_option maxHeartbeats 8000000 in
theorem add_bad (t : Value) (n : List UInt8) (w : World) (hv : Nm.valid n = false) (hl : n.length ≤ 100000) :
    Calls Tryd.prog 36 #[t, .string ⟨n.toArray⟩] w fun e w' => e = .returned (.tuple #[.int .i64 0, .int .i64 2]) ∧ w = w' := by
  have HV := Lib.hid (by have k := valid_any n w hl; rw [hv] at k; exact k)
  clear hv
  go_enter Tryd.func36, Tryd.ntmps36
  go_wp2_with fail
  refine HV.out.mono ?_
  rintro e w' ⟨rfl, rfl⟩
  go_wp2
  go_ret2
  exact ⟨rfl, rfl⟩
set_option maxHeartbeats 8000000 in
theorem add_nil (n : List UInt8) (w : World) (hv : Nm.valid n = true) (hl : n.length ≤ 100000) :
    Calls Tryd.prog 36 #[.pointer none, .string ⟨n.toArray⟩] w fun e w' => e = .returned (.tuple #[.int .i64 0, .int .i64 4]) ∧ w = w' := by
  have HV := Lib.hid (by have k := valid_any n w hl; rw [hv] at k; exact k)
  clear hv
  go_enter Tryd.func36, Tryd.ntmps36
  go_wp2_with fail
  refine HV.out.mono ?_
  rintro e w' ⟨rfl, rfl⟩
  go_wp2
  go_ret2
  exact ⟨rfl, rfl⟩
theorem LT.from {x : Nat → Prop} {t : TB} {F F' : List Nat} {cnt cnt' B : Nat} {L L' : List Bl} {n0 : Nat} {w w1 w' : World} (h : LT x t F cnt B L n0 w w1) (k : LT x t F' cnt' B L' n0 w1 w') : LT x t F' cnt' B L' n0 w w' :=
  ⟨k.at_, h.below.trans k.below, k.tb, fun j hj h1 h2 => (k.own j hj h1 h2).trans (h.own j hj h1 h2)⟩
def AddNew (x : Nat → Prop) (t : TB) (B nn cnt : Nat) (C : Nat → List Ent) (F : List Nat) (L : List Bl) (n0 : Nat) (l : List UInt8) (w : World) (e : Ending) (w' : World) : Prop :=
  (B < sumC L + Ar.cost (l.length + 8) ∧ e = .returned (.tuple #[.int .i64 0, .int .i64 4]) ∧ LT x t F cnt B L n0 w w') ∨ (sumC L + Ar.cost (l.length + 8) ≤ B ∧ PutOk x t B nn cnt C F L n0 l w e w')
set_option maxHeartbeats 16000000 in
theorem add_new (x : Nat → Prop) (t : TB) (B nn cnt : Nat) (C : Nat → List Ent) (F : List Nat) (L : List Bl) (n0 : Nat) (n l : List UInt8) (w : World) (h : HX x t.A B L n0 w) (ht : TbE x t F cnt w) (I : TI nn C F cnt L) (hv : Nm.valid n = true) (hz : Nm.fold n = l) (hl : n.length ≤ 100000) (hl2 : l.length ≤ 300) (hn : ∀ c, c < nn → ∀ e ∈ C c, e.name ≠ l) :
    Calls Tryd.prog 36 #[.pointer (some ⟨t.T, 0, none⟩), .string ⟨n.toArray⟩] w (AddNew x t B nn cnt C F L n0 l w) := by
  have H := Lib.hid h
  have HTB := Lib.hid ht
  have HV := Lib.hid (by have k := valid_any n w hl; rw [hv] at k; exact k)
  have HFO := Lib.hid (by have k := fold_any n w hl; rw [hz] at k; exact k)
  have HH := Lib.hid (fun W (hb : Below w.heap.size w W) => find_no x t B nn cnt C F L n0 l W (h.after hb) (ht.below hb) I (by omega) hn)
  have HPU := Lib.hid (show ∀ W, Below w.heap.size w W → Calls Tryd.prog 76 #[.pointer (some ⟨t.T, 0, none⟩), .string ⟨l.toArray⟩] W (fun e w' => AddNew x t B nn cnt C F L n0 l w e w' ∧ ∃ (i k : Int), e = .returned (.tuple #[.int .i64 i, .int .i64 k])) from fun W hb => by
    have hW := h.after hb
    have hTW := ht.below hb
    have h0 := LT.of (h.lx hb) ht
    by_cases hc : sumC L + Ar.cost (l.length + 8) ≤ B
    · refine (put_ok x t B nn cnt C F L n0 l W hW hTW I hl2 hc).mono fun e w' ⟨L1, L2, e1, hle, he, hL⟩ => ⟨.inr ⟨hc, L1, L2, e1, hle, he, h0.from hL⟩, _, _, he⟩
    · exact (put_full x t B cnt F L n0 l W hW hTW hl2 (by omega)).mono fun e w' ⟨he, hw⟩ => ⟨.inl ⟨by omega, he, by rw [← hw]; exact h0⟩, _, _, he⟩)
  clear h ht I hv hz hn
  obtain ⟨A, T, FF⟩ := t
  simp only at HH HPU
  go_enter Tryd.func36, Tryd.ntmps36
  go_wp2_with fail
  refine HV.out.mono ?_
  rintro e w' ⟨rfl, rfl⟩
  go_wp2_with fail
  refine HFO.out.mono ?_
  rintro e w4 ⟨rfl, b4'⟩
  have HB4 := Lib.hid b4'
  clear b4'
  go_wp2_with fail
  refine (HH.out _ HB4.out).mono ?_
  rintro e w5 ⟨rfl, _, b5⟩
  have hb5 := HB4.out.trans (b5.mono HB4.out.size)
  have HB7 := Lib.hid (hb5.alloc hb5.size (.cells #[.int .i64 0, .int .i64 0, .int .i64 0, .int .i64 0, .int .i64 0, .string ⟨#[]⟩] 113))
  clear b5 hb5
  unfold entV
  go_wp2_with fail
  refine (HPU.out _ HB7.out).mono ?_
  rintro e w6 ⟨hA, i, k, rfl⟩
  have HA := Lib.hid hA
  clear hA
  go_wp2
  go_ret2
  exact HA.out
end Go.Proofs.YtbmppnfliiiobaaDoor

/- Package intern: a name is taken out of its chain. -/
set_option maxRecDepth 100000
namespace Go.Proofs.YtbmppnfliiiobaaDoor
open Go.RowKit Go.Shelf
attribute [local go_sem] Oper.semAt_some
set_option maxHeartbeats 16000000 in
/-- The first one of its chain. -/
theorem unlink_first (x : Nat → Prop) (t : TB) (B cnt : Nat) (F : List Nat) (L : List Bl) (n0 c id uses hr : Nat) (name : List UInt8) (w : World) (h : HX x t.A B L n0 w) (ht : TbE x t F (cnt + 1) w) (hcn : c < F.length) (_hF : F.length ≤ 1000000) (hcnt : cnt ≤ 1000000) (hhr : hr < 2147483648) :
    Calls Tryd.prog 79 #[.pointer (some ⟨t.T, 0, none⟩), entV c 0 id uses hr name] w fun e w' => e = .returned (.tuple #[]) ∧ LT x t (F.set c hr) cnt B L n0 w w' := by
  have H := Lib.hid h
  have HTB := Lib.hid ht
  have HHR := Lib.hid hhr
  clear h ht hhr
  obtain ⟨A, T, FF⟩ := t
  unfold entV
  rw [show ((0 : Nat) : Int) = 0 from rfl]
  have b1 : Below w.heap.size w (w.alloc (.cells #[.int .i64 (c : Int), .int .i64 0, .int .i64 (id : Int), .int .i64 (uses : Int), .int .i64 (hr : Int), .string ⟨name.toArray⟩] 113)) := (Below.refl _ w).alloc (Nat.le_refl _) _
  have K1 := Lib.hid (LT.of (H.out.lx b1) HTB.out)
  have y8 := Blk.new w [.int .i64 (c : Int), .int .i64 0, .int .i64 (id : Int), .int .i64 (uses : Int), .int .i64 (hr : Int), .string ⟨name.toArray⟩] 113
  have c2 := K1.out.tb.box.cell (i := 2) rfl
  have f2 := K1.out.tb.box.frozen 2
  unfold encI at c2
  have ecn : ((cnt + 1 : Nat) : Int) = (cnt : Int) + 1 := by norm_cast
  rw [ecn] at c2
  have esub : (cnt : Int) + 1 - 1 = (cnt : Int) := by omega
  have hTB := K1.out.tb.box.ne y8 (by decide)
  have HY := Lib.hid (y8.other hTB.symm 2 (encI cnt))
  have K2 := Lib.hid (K1.out.putC cnt)
  have z1 := HY.out.cell (i := 1) rfl
  clear b1 ecn
  go_enter Tryd.func79, Tryd.ntmps79
  go_upto_region 2 with fail
  generalize hW2 : World.setCell _ _ _ = W2
  replace K2 : Hid (LT x ⟨A, T, FF⟩ F cnt B L n0 w W2) := by rw [← hW2]; exact K2
  replace HY : Hid (Blk W2 w.heap.size [.int .i64 (c : Int), .int .i64 0, .int .i64 (id : Int), .int .i64 (uses : Int), .int .i64 (hr : Int), .string ⟨name.toArray⟩] 113) := by rw [← hW2]; exact HY
  clear hW2 z1 c2 f2 y8 K1 esub
  have z0 := HY.out.cell (i := 0) rfl
  have z1 := HY.out.cell (i := 1) rfl
  have z4 := HY.out.cell (i := 4) rfl
  have c1 := K2.out.tb.box.cell (i := 1) rfl
  obtain ⟨v9, cf⟩ : ∃ v, W2.cell? ⟨FF, c, none⟩ = some v := ⟨_, K2.out.tb.row.cell (i := c) (by rw [List.getElem?_map, List.getElem?_eq_getElem hcn]; rfl)⟩
  have cF := K2.out.tb.row.frozen c
  have hwi : IntKind.i32.wrap (hr : Int) = (hr : Int) := IntWalk.i32_in _ (by have := HHR.out; omega)
  have K3 := Lib.hid ((K2.out.putF c hr).after ((Below.refl _ _).drew))
  unfold encF at K3
  go_wp2
  go_region
  all_goals
    go_wp2
    exact bodyPost_ret (v := .tuple #[]) (results_none rfl _ _ _) rfl ⟨rfl, K3.out⟩
set_option maxHeartbeats 16000000 in
/-- One behind another one in its chain. -/
theorem unlink_next (x : Nat → Prop) (t : TB) (B cnt : Nat) (F : List Nat) (L1 L2 : List Bl) (n0 c a id uses hr zu nx : Nat) (name zn : List UInt8) (w : World) (h : HX x t.A B (L1 ++ (a, blkE zu nx zn) :: L2) n0 w) (ht : TbE x t F (cnt + 1) w) (hcnt : cnt ≤ 1000000) (hhr : hr < 2147483648) (ha : 1 ≤ a) (hzu : zu < 2147483648) (hnx : nx < 2147483648) (hzn : zn.length ≤ 300) :
    Calls Tryd.prog 79 #[.pointer (some ⟨t.T, 0, none⟩), entV c a id uses hr name] w fun e w' => e = .returned (.tuple #[]) ∧ LT x t F cnt B (L1 ++ (a, blkE zu hr zn) :: L2) n0 w w' := by
  have H := Lib.hid h
  have HTB := Lib.hid ht
  have HHR := Lib.hid hhr
  have HNX := Lib.hid hnx
  have HZU := Lib.hid hzu
  clear h ht hhr hnx hzu
  unfold entV
  have b1 : Below w.heap.size w (w.alloc (.cells #[.int .i64 (c : Int), .int .i64 (a : Int), .int .i64 (id : Int), .int .i64 (uses : Int), .int .i64 (hr : Int), .string ⟨name.toArray⟩] 113)) := (Below.refl _ w).alloc (Nat.le_refl _) _
  have K1 := Lib.hid (LT.of (H.out.lx b1) HTB.out)
  have y8 := Blk.new w [.int .i64 (c : Int), .int .i64 (a : Int), .int .i64 (id : Int), .int .i64 (uses : Int), .int .i64 (hr : Int), .string ⟨name.toArray⟩] 113
  have K2 := Lib.hid (K1.out.putC cnt)
  have HY := Lib.hid (y8.other (K1.out.tb.box.ne y8 (by decide)).symm 2 (encI cnt))
  have hB := iblock_some x t B F.length cnt _ (a, blkE zu nx zn) n0 (a : Int) _ K2.out.at_ K2.out.tb.box (by simp) rfl (by simp only [blkE_len]; omega)
  obtain ⟨d1, d2, d3⟩ := dec_blk zu nx zn (by have := HZU.out; omega) (by have := HNX.out; omega)
  unfold BlockYes at hB
  simp only [d1, d2, d3] at hB
  have HB := Lib.hid hB
  clear hB d1 d2 d3
  obtain ⟨A, T, FF⟩ := t
  simp only at HB
  have c2 := K1.out.tb.box.cell (i := 2) rfl
  have f2 := K1.out.tb.box.frozen 2
  unfold encI at c2
  have ecn : ((cnt + 1 : Nat) : Int) = (cnt : Int) + 1 := by norm_cast
  rw [ecn] at c2
  have hTB : T ≠ w.heap.size := K1.out.tb.box.ne y8 (by decide)
  have hBT := hTB.symm
  have hne : ((a : Int) == 0) = false := by rw [beq_eq_false_iff_ne]; omega
  clear b1 ecn
  go_enter Tryd.func79, Tryd.ntmps79
  go_upto_region 2 with fail
  generalize hW2 : World.setCell _ _ _ = W2
  replace K2 : Hid (LT x ⟨A, T, FF⟩ F cnt B (L1 ++ (a, blkE zu nx zn) :: L2) n0 w W2) := by rw [← hW2]; exact K2
  replace HY : Hid (Blk W2 w.heap.size [.int .i64 (c : Int), .int .i64 (a : Int), .int .i64 (id : Int), .int .i64 (uses : Int), .int .i64 (hr : Int), .string ⟨name.toArray⟩] 113) := by rw [← hW2]; exact HY
  replace HB : Hid (Calls Tryd.prog 100 #[.pointer (some ⟨T, 0, none⟩), .int .i64 (a : Int)] W2 fun e w' => e = .returned (.tuple #[agB zu nx zn, .bool true]) ∧ LX x A B (L1 ++ (a, blkE zu nx zn) :: L2) n0 W2 w' ∧ Below W2.heap.size W2 w') := by rw [← hW2]; exact HB
  clear hW2 c2 f2 y8 K1 hTB hBT
  have z1 := HY.out.cell (i := 1) rfl
  go_wp2_with fail
  refine HB.out.mono ?_
  rintro e w3 ⟨rfl, _, b3⟩
  have K3 := Lib.hid (K2.out.after b3)
  have HY3 := Lib.hid (HY.out.kept (b3.block _ HY.out.lt))
  clear b3 HB z1 K2 HY
  unfold agB
  have y9 := Blk.new w3 [.int .i64 (zu : Int), .int .i64 (nx : Int), .string ⟨zn.toArray⟩] 111
  have z1 := (HY3.out.alloc (.cells #[.int .i64 (zu : Int), .int .i64 (nx : Int), .string ⟨zn.toArray⟩] 111)).cell (i := 1) rfl
  have z4 := (HY3.out.alloc (.cells #[.int .i64 (zu : Int), .int .i64 (nx : Int), .string ⟨zn.toArray⟩] 111)).cell (i := 4) rfl
  have q1 := y9.cell (i := 1) rfl
  have g1 := y9.frozen 1
  go_upto_region 6 with fail
  clear z1 z4 q1 g1 y9
  have k5 := K3.out.after ((Below.refl _ w3).alloc (Nat.le_refl _) (.cells #[.int .i64 (zu : Int), .int .i64 (hr : Int), .string ⟨zn.toArray⟩] 111))
  have hy5 := HY3.out.alloc (.cells #[.int .i64 (zu : Int), .int .i64 (hr : Int), .string ⟨zn.toArray⟩] 111)
  have y5 := Blk.new w3 [.int .i64 (zu : Int), .int .i64 (hr : Int), .string ⟨zn.toArray⟩] 111
  generalize hW5 : World.alloc _ _ = W5 at k5 hy5 ⊢
  replace y5 : Blk W5 w3.heap.size [.int .i64 (zu : Int), .int .i64 (hr : Int), .string ⟨zn.toArray⟩] 111 := by rw [← hW5]; exact y5
  clear hW5
  have K5 := Lib.hid k5
  have z1 := hy5.cell (i := 1) rfl
  have q0 := y5.cell (i := 0) rfl
  have q1 := y5.cell (i := 1) rfl
  have q2 := y5.cell (i := 2) rfl
  clear k5
  go_wp2_with fail
  refine (write_any x ⟨A, T, FF⟩ B F.length cnt L1 L2 a (blkE zu nx zn) n0 zu hr zn (a : Int) W5 rfl K5.out.at_ K5.out.tb.box (by rw [blkE_len]) (by omega) (by have := HZU.out; omega) (by have := HHR.out; omega)).mono ?_
  rintro e w8 ⟨rfl, h8⟩
  have K8 := Lib.hid (K5.out.go h8)
  clear h8
  go_wp2
  go_end0
  exact ⟨rfl, K8.out⟩
end Go.Proofs.YtbmppnfliiiobaaDoor

/- Package intern: a name leaves its chain. -/
set_option maxRecDepth 100000
namespace Go.Proofs.YtbmppnfliiiobaaDoor
open Go.RowKit Go.Shelf
attribute [local go_sem] Oper.semAt_some
/-- Two names that are there have two ids. -/
theorem TI.id_ne {nn cnt : Nat} {C : Nat → List Ent} {F : List Nat} {L : List Bl} (I : TI nn C F cnt L) (hs : L.Pairwise (fun a b => a.1 < b.1)) {c k : Nat} (hc : c < nn) (hk : k < nn) {y e : Ent} (hy : y ∈ C c) (he : e ∈ C k) (hn : e.name ≠ y.name) : e.id ≠ y.id := fun hi => by
  obtain ⟨n1, _, h1⟩ := I.mem hc hy
  obtain ⟨n2, _, h2⟩ := I.mem hk he
  have h3 := srt_mem hs h2 h1 hi
  exact hn (congrArg (fun z => List.drop 8 z) (Prod.mk.inj h3).2)
theorem TI.far {nn cnt : Nat} {C : Nat → List Ent} {F : List Nat} {L : List Bl} (I : TI nn C F cnt L) {c k : Nat} (hc : c < nn) (hk : k < nn) (hkc : k ≠ c) {y e : Ent} (hy : y ∈ C c) (he : e ∈ C k) : e.name ≠ y.name := fun hn => hkc (by rw [← I.hash k hk e he, hn]; exact I.hash c hc y hy)
theorem nodup_mid {P R : List Ent} {y : Ent} (h : ((P ++ y :: R).map Ent.name).Nodup) : ∀ e ∈ P ++ R, e.name ≠ y.name := fun e he hn => by
  rw [List.map_append, List.map_cons, List.nodup_append] at h
  obtain ⟨_, h2, h3⟩ := h
  rw [List.nodup_cons] at h2
  rcases List.mem_append.1 he with he | he
  · exact h3 e.name (List.mem_map_of_mem he) y.name (by simp) hn
  · exact h2.1 (hn ▸ List.mem_map_of_mem he)
theorem lastId_mem {P : List Ent} (h : P ≠ []) : ∃ Q z, P = Q ++ [z] ∧ lastId P = z.id := by
  refine ⟨P.dropLast, P.getLast h, (List.dropLast_concat_getLast h).symm, ?_⟩
  conv => lhs; rw [← List.dropLast_concat_getLast h]
  exact lastId_snoc _ _
/-- A name leaves: the block that named its block names what it named. -/
theorem TI.cut {nn cnt c : Nat} {C : Nat → List Ent} {F : List Nat} {L L' : List Bl} {P R : List Ent} {y : Ent} (I : TI nn C F (cnt + 1) L) (hs : L.Pairwise (fun a b => a.1 < b.1)) (hc : c < nn) (hC : C c = P ++ y :: R) (hkeep : ∀ b ∈ L, b.1 ≠ y.id → (P ≠ [] → b.1 ≠ lastId P) → b ∈ L') (hpred : ∀ Q z, P = Q ++ [z] → (z.id, blkE z.uses (headId R) z.name) ∈ L') :
    TI nn (upd C c (P ++ R)) (F.set c (headId (P ++ R))) cnt L' := by
  have hyC : y ∈ C c := by rw [hC]; simp
  have hnd := I.names c hc
  have hne := nodup_mid (by rw [← hC]; exact hnd)
  have hPC : ∀ e ∈ P ++ R, e ∈ C c := fun e he => by
    rw [hC]
    rcases List.mem_append.1 he with he | he <;> simp [he]
  have hlim := I.clim
  refine I.chain hc rfl (by rw [hC]; simp; omega) (by omega) ?_ (fun k hk hkc e he d hd => hkeep _ hd (I.id_ne hs hc hk hyC he (I.far hc hk hkc hyC he)) fun hP => ?_) (fun e he => I.hash c hc e (hPC e he)) ?_ (fun e he => I.small c hc e (hPC e he))
  · have hl := I.link c hc
    rw [hC] at hl
    by_cases hP : P = []
    · subst hP
      exact linked_mono hl.2 fun e he d hd => hkeep _ hd (I.id_ne hs hc hc hyC (hPC e he) (hne e he)) fun h => absurd rfl h
    · obtain ⟨Q, z, rfl, hz⟩ := lastId_mem hP
      have hzC : z ∈ C c := hPC z (by simp)
      have hnz : ∀ e ∈ Q ++ R, e.name ≠ z.name := fun e he => by
        have h := nodup_mid (P := Q) (R := y :: R) (y := z) (by rw [hC] at hnd; simpa using hnd)
        exact h e (by rcases List.mem_append.1 he with he | he <;> simp [he])
      have key : ∀ (Q' : List Ent), (∀ e ∈ Q', e ∈ C c ∧ e.name ≠ y.name ∧ e.name ≠ z.name) → linked L (Q' ++ z :: y :: R) → linked L' (Q' ++ z :: R) := fun Q' => by
        induction Q' with
        | nil =>
          intro _ h
          exact ⟨hpred Q z rfl, linked_mono h.2.2 fun e he d hd => hkeep _ hd (I.id_ne hs hc hc hyC (hPC e (by simp [he])) (hne e (by simp [he]))) fun _ => by rw [hz]; exact I.id_ne hs hc hc hzC (hPC e (by simp [he])) (hnz e (by simp [he]))⟩
        | cons q Q' ih =>
          intro hq h
          obtain ⟨q1, q2, q3⟩ := hq q (by simp)
          refine ⟨?_, ih (fun e he => hq e (List.mem_cons_of_mem _ he)) h.2⟩
          have he : headId (Q' ++ z :: R) = headId (Q' ++ z :: y :: R) := by cases Q' <;> rfl
          show (q.id, blkE q.uses (headId (Q' ++ z :: R)) q.name) ∈ _
          rw [he]
          exact hkeep _ h.1 (I.id_ne hs hc hc hyC q1 q2) fun _ => by rw [hz]; exact I.id_ne hs hc hc hzC q1 q3
      have e1 : Q ++ [z] ++ y :: R = Q ++ z :: y :: R := by simp
      have e2 : Q ++ [z] ++ R = Q ++ z :: R := by simp
      rw [e1] at hl
      rw [e2]
      exact key Q (fun e he => ⟨hPC e (by simp [he]), hne e (by simp [he]), hnz e (by simp [he])⟩) hl
  · obtain ⟨Q, z, rfl, hz⟩ := lastId_mem hP
    have hzC : z ∈ C c := hPC z (by simp)
    rw [hz]
    exact I.id_ne hs hc hk hzC he (I.far hc hk hkc hzC he)
  · rw [hC] at hnd
    rw [List.map_append, List.map_cons] at hnd
    rw [List.map_append]
    exact hnd.sublist (List.Sublist.append (List.Sublist.refl _) (List.sublist_cons_self _ _))
end Go.Proofs.YtbmppnfliiiobaaDoor

/- Package intern: unlink, both ways. -/
set_option maxRecDepth 100000
namespace Go.Proofs.YtbmppnfliiiobaaDoor
open Go.RowKit Go.Shelf
attribute [local go_sem] Oper.semAt_some
def lens (L : List Bl) : List (Nat × Nat) := L.map fun b => (b.1, b.2.length)
/-- What is left of the blocks when one has been unlinked. -/
structure Unl (L Lm : List Bl) (P R : List Ent) : Prop where
  keep : ∀ b ∈ L, (P ≠ [] → b.1 ≠ lastId P) → b ∈ Lm
  pred : ∀ Q z, P = Q ++ [z] → (z.id, blkE z.uses (headId R) z.name) ∈ Lm
  lens : lens Lm = lens L
theorem unlink_any (x : Nat → Prop) (t : TB) (B nn cnt : Nat) (C : Nat → List Ent) (F : List Nat) (L : List Bl) (n0 c : Nat) (P R : List Ent) (y : Ent) (w : World) (h : HX x t.A B L n0 w) (ht : TbE x t F (cnt + 1) w) (I : TI nn C F (cnt + 1) L) (hc : c < nn) (hC : C c = P ++ y :: R) :
    Calls Tryd.prog 79 #[.pointer (some ⟨t.T, 0, none⟩), entV c (lastId P) y.id y.uses (headId R) y.name] w fun e w' => e = .returned (.tuple #[]) ∧ ∃ Lm, Unl L Lm P R ∧ LT x t (F.set c (headId (P ++ R))) cnt B Lm n0 w w' := by
  have hlen := I.len
  have hlim := I.lim
  have hcl := I.clim
  have hR : headId R < 2147483648 := headId_lt fun e he => (I.small c hc e (by rw [hC]; simp [he])).2.1
  by_cases hP : P = []
  · subst hP
    refine (unlink_first x t B cnt F L n0 c y.id y.uses (headId R) y.name w h ht (by omega) (by omega) (by omega) hR).mono fun e w' ⟨he, hL⟩ => ⟨he, L, ⟨fun b hb _ => hb, fun Q z hq => by simp at hq, rfl⟩, hL⟩
  · obtain ⟨Q, z, rfl, hz⟩ := lastId_mem hP
    have hl := I.link c hc
    have e1 : C c = Q ++ z :: y :: R := by rw [hC]; simp
    rw [e1] at hl
    have hm := linked_app hl
    obtain ⟨s1, s2, s3⟩ := I.small c hc z (by rw [hC]; simp)
    obtain ⟨y1, y2, y3⟩ := I.small c hc y (by rw [hC]; simp)
    obtain ⟨L1, L2, hL⟩ := List.append_of_mem hm
    obtain ⟨hs, hea⟩ := h.each
    have hp := (hea _ hm).1
    rw [hL] at h
    have hF : F.set c (headId (Q ++ [z] ++ R)) = F := set_same (by
      rw [I.first c hc, e1]
      cases Q <;> simp [headId])
    rw [hz, hF]
    refine (unlink_next x t B cnt F L1 L2 n0 c z.id y.id y.uses (headId R) z.uses y.id y.name z.name w h ht (by omega) hR hp s1 y2 s3).mono fun e w' ⟨he, hk⟩ => ⟨he, _, ⟨fun b hb hne => ?_, fun Q' z' hq => ?_, ?_⟩, hk⟩
    · have h1 := hne (by simp)
      rw [hz] at h1
      rw [hL] at hb
      rcases List.mem_append.1 hb with hb | hb
      · simp [hb]
      · rcases List.mem_cons.1 hb with hb | hb
        · exact absurd (by rw [hb]) h1
        · simp [hb]
    · obtain ⟨_, h2⟩ := List.append_inj' hq rfl
      obtain rfl : z = z' := by simpa using h2
      simp
    · rw [hL]
      unfold lens
      simp [blkE_len]
end Go.Proofs.YtbmppnfliiiobaaDoor

/- Package intern: Drop. -/
set_option maxRecDepth 100000
namespace Go.Proofs.YtbmppnfliiiobaaDoor
open Go.RowKit Go.Shelf
attribute [local go_sem] Oper.semAt_some
set_option maxHeartbeats 8000000 in
theorem drop_none (x : Nat → Prop) (t : TB) (B : Nat) (cnt : Nat) (F : List Nat) (L : List Bl) (n0 : Nat) (z : Int) (w : World) (h : HX x t.A B L n0 w) (ht : TbE x t F cnt w) (hz : ∀ b ∈ L, (b.1 : Int) ≠ z) :
    Calls Tryd.prog 38 #[.pointer (some ⟨t.T, 0, none⟩), .int .i64 z] w fun e w' => e = .returned (.int .i64 5) ∧ LX x t.A B L n0 w w' ∧ Below w.heap.size w w' := by
  have H := Lib.hid h
  have HH := Lib.hid (held_no x t B cnt F L n0 z w h ht hz)
  clear h ht hz
  obtain ⟨A, T, FF⟩ := t
  simp only at HH
  go_enter Tryd.func38, Tryd.ntmps38
  go_wp2_with fail
  refine HH.out.mono ?_
  rintro e w5 ⟨rfl, _, b5⟩
  have HB7 := Lib.hid (b5.alloc b5.size (.cells #[.int .i64 0, .int .i64 0, .int .i64 0, .int .i64 0, .int .i64 0, .string ⟨#[]⟩] 113))
  clear b5
  unfold entV
  go_wp2
  go_ret
  exact ⟨rfl, H.out.lx HB7.out, HB7.out⟩
set_option maxHeartbeats 600000 in
/-- One use less. -/
theorem drop_less (x : Nat → Prop) (t : TB) (B nn cnt : Nat) (C : Nat → List Ent) (F : List Nat) (L : List Bl) (n0 c : Nat) (y : Ent) (u : Nat) (z : Int) (w : World) (h : HX x t.A B L n0 w) (ht : TbE x t F cnt w) (I : TI nn C F cnt L) (hc : c < nn) (hy : y ∈ C c) (hu : y.uses = u + 1) (hu1 : 1 ≤ u) (hz : z = (y.id : Int)) :
    Calls Tryd.prog 38 #[.pointer (some ⟨t.T, 0, none⟩), .int .i64 z] w fun e w' => e = .returned (.int .i64 0) ∧ AddUp x t.A B C L n0 c y u w w' := by
  have H := Lib.hid h
  have HTB := Lib.hid ht
  have HI := Lib.hid I
  have HH := Lib.hid (held_yes x t B nn cnt C F L n0 c y z w h ht I hc hy hz)
  obtain ⟨hyu, hyi, hyn⟩ := I.small c hc y hy
  clear h ht I
  subst hz
  obtain ⟨A, T, FF⟩ := t
  simp only at HH
  go_enter Tryd.func38, Tryd.ntmps38
  go_wp2_with fail
  refine HH.out.mono ?_
  rintro e w5 ⟨_, b5, P, R, hPR, rfl⟩
  have HB5 := Lib.hid b5
  have HPR := Lib.hid hPR
  clear b5 hPR
  obtain ⟨a, ha⟩ : ∃ a, lastId P = a := ⟨_, rfl⟩
  obtain ⟨hr, hhr⟩ : ∃ hr, headId R = hr := ⟨_, rfl⟩
  have hhl : hr < 2147483648 := by rw [← hhr]; exact headId_lt fun e he => (HI.out.small c hc e (by rw [HPR.out]; simp [he])).2.1
  have hmem : (y.id, blkE y.uses (headId R) y.name) ∈ L := linked_app (P := P) (by rw [← HPR.out]; exact HI.out.link c hc)
  rw [ha, hhr]
  rw [hhr] at hmem
  obtain ⟨L1, L2, hL⟩ := List.append_of_mem hmem
  have HL := Lib.hid hL
  have HHR := Lib.hid hhr
  have HHL := Lib.hid hhl
  have HU := Lib.hid hu
  have hul : u < 2147483648 := by omega
  clear ha hhr hhl hmem hL hu
  unfold entV
  rw [HU.out]
  have ecu : ((u + 1 : Nat) : Int) = (u : Int) + 1 := by norm_cast
  rw [ecu]
  have esub : (u : Int) + 1 - 1 = (u : Int) := by omega
  have hgt : decide ((u : Int) + 1 > 1) = true := by rw [decide_eq_true_eq]; omega
  clear ecu
  have y8 := Blk.new w5 [.int .i64 (c : Int), .int .i64 (a : Int), .int .i64 (y.id : Int), .int .i64 ((u : Int) + 1), .int .i64 (hr : Int), .string ⟨y.name.toArray⟩] 113
  have z3 := y8.cell (i := 3) rfl
  have f3 := y8.frozen 3
  go_upto_region 6 with fail
  clear z3 f3 y8
  have hx7 := (H.out.after HB5.out).mine (.cells #[.int .i64 (c : Int), .int .i64 (a : Int), .int .i64 (y.id : Int), .int .i64 (u : Int), .int .i64 (hr : Int), .string ⟨y.name.toArray⟩] 113)
  have hb7 := HB5.out.alloc HB5.out.size (.cells #[.int .i64 (c : Int), .int .i64 (a : Int), .int .i64 (y.id : Int), .int .i64 (u : Int), .int .i64 (hr : Int), .string ⟨y.name.toArray⟩] 113)
  have y9 := Blk.new w5 [.int .i64 (c : Int), .int .i64 (a : Int), .int .i64 (y.id : Int), .int .i64 (u : Int), .int .i64 (hr : Int), .string ⟨y.name.toArray⟩] 113
  have hT7 := HTB.out.below hb7
  generalize hW7 : World.alloc _ _ = W7 at hx7 hb7 hT7 ⊢
  replace y9 : Blk W7 w5.heap.size [.int .i64 (c : Int), .int .i64 (a : Int), .int .i64 (y.id : Int), .int .i64 (u : Int), .int .i64 (hr : Int), .string ⟨y.name.toArray⟩] 113 := by rw [← hW7]; exact y9
  clear hW7
  have HX7 := Lib.hid hx7
  have HB7 := Lib.hid hb7
  have HT7 := Lib.hid hT7
  have Y9 := Lib.hid y9
  have z2 := y9.cell (i := 2) rfl
  have z3 := y9.cell (i := 3) rfl
  have z4 := y9.cell (i := 4) rfl
  have z5 := y9.cell (i := 5) rfl
  clear hx7 hb7 hT7 y9
  go_wp2_with fail
  refine (write_any (fun k => x k ∨ k = w5.heap.size) ⟨A, T, FF⟩ B F.length cnt L1 L2 y.id (blkE y.uses hr y.name) n0 u hr y.name (y.id : Int) W7 rfl (by rw [← HL.out]; exact HX7.out) HT7.out.box (by rw [blkE_len]) (by omega) (by have := HU.out; omega) (by have := HHL.out; omega)).mono ?_
  rintro e w8 ⟨rfl, h8⟩
  have H8 := Lib.hid (LX.from H.out HB7.out (h8.less (x := x) (fun k hk => .inl hk)))
  clear h8 z2 z3 z4 z5
  go_wp2
  go_ret
  exact ⟨rfl, P, R, L1, L2, HPR.out, by rw [HHR.out]; exact HL.out, by rw [HHR.out]; exact H8.out⟩
end Go.Proofs.YtbmppnfliiiobaaDoor

/- Package intern: Drop, the last use. -/
set_option maxRecDepth 100000
namespace Go.Proofs.YtbmppnfliiiobaaDoor
open Go.RowKit Go.Shelf
attribute [local go_sem] Oper.semAt_some
/-- A name has gone. -/
def DropLast (x : Nat → Prop) (t : TB) (B nn cnt : Nat) (C : Nat → List Ent) (_F : List Nat) (L : List Bl) (n0 c : Nat) (y : Ent) (w w' : World) : Prop :=
  ∃ P R F' L1 L2 M1 M2 b, C c = P ++ y :: R ∧ TI nn (upd C c (P ++ R)) F' cnt (L1 ++ L2) ∧ L = M1 ++ (y.id, b) :: M2 ∧ b.length = y.name.length + 8 ∧ lens L1 = lens M1 ∧ lens L2 = lens M2 ∧ LT x t F' cnt B (L1 ++ L2) n0 w w'
theorem lens_split {L1 L2 : List Bl} {i : Nat} {d : List UInt8} {M : List Bl} (h : lens (L1 ++ (i, d) :: L2) = lens M) : ∃ M1 M2 b, M = M1 ++ (i, b) :: M2 ∧ b.length = d.length ∧ lens L1 = lens M1 ∧ lens L2 = lens M2 := by
  unfold lens at h
  rw [List.map_append, List.map_cons] at h
  obtain ⟨M1, M', rfl, h1, h2⟩ := List.map_eq_append_iff.1 h.symm
  obtain ⟨⟨j, b⟩, M2, rfl, h3, h4⟩ := List.map_eq_cons_iff.1 h2
  obtain ⟨rfl, h5⟩ := Prod.mk.inj h3
  exact ⟨M1, M2, b, rfl, h5, h1.symm, h4.symm⟩
theorem lens_srt {L M : List Bl} (h : lens L = lens M) (hs : M.Pairwise (fun a b => a.1 < b.1)) : L.Pairwise (fun a b => a.1 < b.1) := by
  have h1 : (lens M).Pairwise (fun a b => a.1 < b.1) := by
    unfold lens; rw [List.pairwise_map]; exact hs
  rw [← h] at h1
  unfold lens at h1
  rw [List.pairwise_map] at h1
  exact h1
set_option maxHeartbeats 16000000 in
theorem drop_last (x : Nat → Prop) (t : TB) (B nn cnt : Nat) (C : Nat → List Ent) (F : List Nat) (L : List Bl) (n0 c : Nat) (y : Ent) (z : Int) (w : World) (h : HX x t.A B L n0 w) (ht : TbE x t F (cnt + 1) w) (I : TI nn C F (cnt + 1) L) (hc : c < nn) (hy : y ∈ C c) (hu : y.uses = 1) (hz : z = (y.id : Int)) :
    Calls Tryd.prog 38 #[.pointer (some ⟨t.T, 0, none⟩), .int .i64 z] w fun e w' => e = .returned (.int .i64 0) ∧ DropLast x t B nn cnt C F L n0 c y w w' := by
  have H := Lib.hid h
  have HTB := Lib.hid ht
  have HI := Lib.hid I
  have HH := Lib.hid (held_yes x t B nn (cnt + 1) C F L n0 c y z w h ht I hc hy hz)
  clear h ht I
  subst hz
  obtain ⟨A, T, FF⟩ := t
  simp only at HH
  go_enter Tryd.func38, Tryd.ntmps38
  go_wp2_with fail
  refine HH.out.mono ?_
  rintro e w5 ⟨_, b5, P, R, hPR, rfl⟩
  have HB5 := Lib.hid b5
  have HPR := Lib.hid hPR
  clear b5 hPR
  obtain ⟨a, ha⟩ : ∃ a, lastId P = a := ⟨_, rfl⟩
  obtain ⟨hr, hhr⟩ : ∃ hr, headId R = hr := ⟨_, rfl⟩
  rw [ha, hhr]
  have HHR := Lib.hid hhr
  have HA := Lib.hid ha
  have HU := Lib.hid hu
  clear ha hhr hu
  unfold entV
  rw [HU.out, show ((1 : Nat) : Int) = 1 from rfl]
  have y8 := Blk.new w5 [.int .i64 (c : Int), .int .i64 (a : Int), .int .i64 (y.id : Int), .int .i64 1, .int .i64 (hr : Int), .string ⟨y.name.toArray⟩] 113
  have z0 := y8.cell (i := 0) rfl
  have z1 := y8.cell (i := 1) rfl
  have z2 := y8.cell (i := 2) rfl
  have z3 := y8.cell (i := 3) rfl
  have z4 := y8.cell (i := 4) rfl
  have z5 := y8.cell (i := 5) rfl
  have hb7 := HB5.out.alloc HB5.out.size (.cells #[.int .i64 (c : Int), .int .i64 (a : Int), .int .i64 (y.id : Int), .int .i64 1, .int .i64 (hr : Int), .string ⟨y.name.toArray⟩] 113)
  have HB7 := Lib.hid hb7
  clear hb7
  have HUN := Lib.hid (unlink_any x ⟨A, T, FF⟩ B nn cnt C F L n0 c P R y _ (H.out.after HB7.out) (HTB.out.below HB7.out) HI.out hc HPR.out)
  unfold entV at HUN
  rw [HA.out, HHR.out, HU.out, show ((1 : Nat) : Int) = 1 from rfl] at HUN
  go_wp2_with fail
  refine HUN.out.mono ?_
  rintro e w8 ⟨rfl, Lm, hun, h8⟩
  have K8 := Lib.hid (LT.from (LT.of (H.out.lx HB7.out) HTB.out) h8)
  clear z0 z1 z2 z3 z4 z5 y8 h8 HUN
  have hmem : (y.id, blkE y.uses (headId R) y.name) ∈ L := linked_app (P := P) (by rw [← HPR.out]; exact HI.out.link c hc)
  have hyz : P ≠ [] → y.id ≠ lastId P := fun hP => by
    obtain ⟨Q, q, rfl, hq⟩ := lastId_mem hP
    have hnd := HI.out.names c hc
    rw [HPR.out] at hnd
    rw [hq]
    exact fun e => HI.out.id_ne H.out.each.1 hc hc hy (show q ∈ C c by rw [HPR.out]; simp) (nodup_mid hnd q (by simp)) e.symm
  have hm2 := hun.keep _ hmem hyz
  obtain ⟨L1, L2, hL⟩ := List.append_of_mem hm2
  obtain ⟨M1, M2, b, e1, e2, e3, e4⟩ := lens_split (M := L) (L1 := L1) (L2 := L2) (i := y.id) (d := blkE y.uses (headId R) y.name) (by rw [← hL]; exact hun.lens)
  have hTI : TI nn (upd C c (P ++ R)) (F.set c (headId (P ++ R))) cnt (L1 ++ L2) := HI.out.cut H.out.each.1 hc HPR.out (fun b hb h1 h2 => by
    have h3 := hun.keep b hb h2
    rw [hL] at h3
    rcases List.mem_append.1 h3 with h3 | h3
    · simp [h3]
    · rcases List.mem_cons.1 h3 with h3 | h3
      · exact absurd (by rw [h3]) h1
      · simp [h3]) (fun Q q hq => by
    have h3 := hun.pred Q q hq
    rw [hL] at h3
    rcases List.mem_append.1 h3 with h3 | h3
    · simp [h3]
    · rcases List.mem_cons.1 h3 with h3 | h3
      · exfalso
        refine hyz (by rw [hq]; simp) ?_
        rw [hq, lastId_snoc]
        exact (Prod.mk.inj h3).1.symm
      · simp [h3])
  have HTI := Lib.hid hTI
  have HR := Lib.hid (show ∃ M1 M2 b, L = M1 ++ (y.id, b) :: M2 ∧ b.length = y.name.length + 8 ∧ lens L1 = lens M1 ∧ lens L2 = lens M2 from ⟨M1, M2, b, e1, by rw [e2, blkE_len]; omega, e3, e4⟩)
  obtain ⟨F', hF'⟩ : ∃ F', F.set c (headId (P ++ R)) = F' := ⟨_, rfl⟩
  rw [hF'] at HTI K8
  clear hTI hm2 hmem hyz hun e1 e2 e3 e4 hF' b
  subst hL
  have c0 := K8.out.tb.box.cell (i := 0) rfl
  go_wp2_with fail
  refine (free_ok x A B L1 L2 (y.id, blkE y.uses (headId R) y.name) n0 (y.id : Int) w8 rfl K8.out.at_).mono ?_
  rintro e w9 ⟨rfl, h9⟩
  have K9 := Lib.hid (K8.out.go h9)
  clear h9 c0
  go_wp2
  go_ret
  obtain ⟨M1, M2, b, e1, e2, e3, e4⟩ := HR.out
  exact ⟨rfl, P, R, F', L1, L2, M1, M2, b, HPR.out, HTI.out, e1, e2, e3, e4, K9.out⟩
end Go.Proofs.YtbmppnfliiiobaaDoor

/- Package intern: Cost. -/
set_option maxRecDepth 100000
namespace Go.Proofs.YtbmppnfliiiobaaDoor
open Go.RowKit Go.Shelf
attribute [local go_sem] Oper.semAt_some
set_option maxHeartbeats 8000000 in
theorem icost_bad (t : Value) (n : List UInt8) (w : World) (hv : Nm.valid n = false) (hl : n.length ≤ 100000) :
    Calls Tryd.prog 43 #[t, .string ⟨n.toArray⟩] w fun e w' => e = .returned (.int .i64 0) ∧ w = w' := by
  have HV := Lib.hid (by have k := valid_any n w hl; rw [hv] at k; exact k)
  clear hv
  go_enter Tryd.func43, Tryd.ntmps43
  go_wp2_with fail
  refine HV.out.mono ?_
  rintro e w' ⟨rfl, rfl⟩
  go_wp2
  go_ret
  exact ⟨rfl, rfl⟩
set_option maxHeartbeats 8000000 in
theorem icost_yes (x : Nat → Prop) (t : TB) (B nn cnt : Nat) (C : Nat → List Ent) (F : List Nat) (L : List Bl) (n0 c : Nat) (y : Ent) (n : List UInt8) (w : World) (h : HX x t.A B L n0 w) (ht : TbE x t F cnt w) (I : TI nn C F cnt L) (hc : c < nn) (hy : y ∈ C c) (hv : Nm.valid n = true) (hz : Nm.fold n = y.name) (hl : n.length ≤ 100000) :
    Calls Tryd.prog 43 #[.pointer (some ⟨t.T, 0, none⟩), .string ⟨n.toArray⟩] w fun e w' => e = .returned (.int .i64 0) ∧ LX x t.A B L n0 w w' ∧ Below w.heap.size w w' := by
  have HV := Lib.hid (by have k := valid_any n w hl; rw [hv] at k; exact k)
  have HH := Lib.hid (tfind_yes x t B nn cnt C F L n0 c y n w h ht I hc hy hz hl)
  clear hv h ht I hz
  obtain ⟨A, T, FF⟩ := t
  simp only at HH
  go_enter Tryd.func43, Tryd.ntmps43
  go_wp2_with fail
  refine HV.out.mono ?_
  rintro e w' ⟨rfl, rfl⟩
  go_wp2_with fail
  refine HH.out.mono ?_
  rintro e w1 ⟨rfl, h1, b1⟩
  have K := Lib.hid h1
  have KB := Lib.hid b1
  clear h1 b1
  go_wp2
  go_ret
  exact ⟨rfl, K.out, KB.out⟩
set_option maxHeartbeats 8000000 in
theorem icost_no (x : Nat → Prop) (t : TB) (B nn cnt : Nat) (C : Nat → List Ent) (F : List Nat) (L : List Bl) (n0 : Nat) (n : List UInt8) (w : World) (h : HX x t.A B L n0 w) (ht : TbE x t F cnt w) (I : TI nn C F cnt L) (hv : Nm.valid n = true) (hl : n.length ≤ 100000) (hfl : (Nm.fold n).length ≤ 1000000) (hn : ∀ c, c < nn → ∀ e ∈ C c, e.name ≠ Nm.fold n) :
    Calls Tryd.prog 43 #[.pointer (some ⟨t.T, 0, none⟩), .string ⟨n.toArray⟩] w fun e w' => e = .returned (.int .i64 (Ar.costI ((n.length + 8 : Nat) : Int) : Int)) ∧ LX x t.A B L n0 w w' ∧ Below w.heap.size w w' := by
  have HV := Lib.hid (by have k := valid_any n w hl; rw [hv] at k; exact k)
  have HH := Lib.hid (tfind_no x t B nn cnt C F L n0 n w h ht I hl hfl hn)
  have HCC := Lib.hid (fun W => cost_call n.length (8 + (n.length : Int)) W rfl)
  clear hv h ht I hn
  obtain ⟨A, T, FF⟩ := t
  simp only at HH
  go_enter Tryd.func43, Tryd.ntmps43
  go_wp2_with fail
  refine HV.out.mono ?_
  rintro e w' ⟨rfl, rfl⟩
  go_wp2_with fail
  refine HH.out.mono ?_
  rintro e w1 ⟨rfl, h1, b1⟩
  have K := Lib.hid h1
  have KB := Lib.hid b1
  clear h1 b1
  go_wp2_with fail
  refine (HCC.out _).mono ?_
  rintro e w2 ⟨rfl, rfl⟩
  go_wp2
  go_ret
  exact ⟨rfl, K.out, KB.out⟩
end Go.Proofs.YtbmppnfliiiobaaDoor

/- Package intern: a table by its names. -/
set_option maxRecDepth 100000
namespace Go.Proofs.YtbmppnfliiiobaaDoor
open Go.RowKit Go.Shelf
attribute [local go_sem] Oper.semAt_some
def idl (E : List Ent) : List (Nat × Nat) := E.map fun e => (e.id, e.name.length + 8)
def costE (E : List Ent) : Nat := (E.map fun e => Ar.cost (e.name.length + 8)).sum
theorem costE_cons (e : Ent) (E : List Ent) : costE (e :: E) = Ar.cost (e.name.length + 8) + costE E := by simp [costE]
theorem costE_app (E M : List Ent) : costE (E ++ M) = costE E + costE M := by simp [costE]
/-- A table that has these names, and nothing else in its arena. -/
structure TS (x : Nat → Prop) (t : TB) (B nn : Nat) (E : List Ent) (n0 : Nat) (C : Nat → List Ent) (F : List Nat) (L : List Bl) (w : World) : Prop where
  hx : HX x t.A B L n0 w
  tb : TbE x t F E.length w
  ti : TI nn C F E.length L
  mem : ∀ e, e ∈ E ↔ ∃ c, c < nn ∧ e ∈ C c
  per : (lens L).Perm (idl E)
theorem sumC_lens (L : List Bl) : sumC L = ((lens L).map fun p => Ar.cost p.2).sum := by
  unfold sumC lens
  rw [List.map_map]
  rfl
theorem costE_idl (E : List Ent) : costE E = ((idl E).map fun p => Ar.cost p.2).sum := by
  unfold costE idl
  rw [List.map_map]
  rfl
theorem TS.sum {x : Nat → Prop} {t : TB} {B nn : Nat} {E : List Ent} {n0 : Nat} {C : Nat → List Ent} {F : List Nat} {L : List Bl} {w : World} (h : TS x t B nn E n0 C F L w) : sumC L = costE E := by
  rw [sumC_lens, costE_idl]
  exact (h.per.map _).sum_nat
theorem TS.ids {x : Nat → Prop} {t : TB} {B nn : Nat} {E : List Ent} {n0 : Nat} {C : Nat → List Ent} {F : List Nat} {L : List Bl} {w : World} (h : TS x t B nn E n0 C F L w) : (E.map Ent.id).Nodup := by
  have h1 : (E.map Ent.id) = (idl E).map Prod.fst := by unfold idl; rw [List.map_map]; rfl
  rw [h1]
  refine (h.per.map Prod.fst).nodup_iff.1 ?_
  unfold lens
  rw [List.map_map]
  have hs := h.hx.each.1
  unfold List.Nodup
  rw [List.pairwise_map]
  exact hs.imp fun hab => by simp only [Function.comp]; omega
theorem TS.no {x : Nat → Prop} {t : TB} {B nn : Nat} {E : List Ent} {n0 : Nat} {C : Nat → List Ent} {F : List Nat} {L : List Bl} {w : World} (h : TS x t B nn E n0 C F L w) {l : List UInt8} (hn : ∀ e ∈ E, e.name ≠ l) : ∀ c, c < nn → ∀ e ∈ C c, e.name ≠ l := fun c hc e he => hn e ((h.mem e).2 ⟨c, hc, he⟩)
theorem TS.noid {x : Nat → Prop} {t : TB} {B nn : Nat} {E : List Ent} {n0 : Nat} {C : Nat → List Ent} {F : List Nat} {L : List Bl} {w : World} (h : TS x t B nn E n0 C F L w) {z : Int} (hz : ∀ e ∈ E, (e.id : Int) ≠ z) : ∀ b ∈ L, (b.1 : Int) ≠ z := fun b hb => by
  have h1 : (b.1, b.2.length) ∈ lens L := List.mem_map.2 ⟨b, hb, rfl⟩
  obtain ⟨e, he, h2⟩ := List.mem_map.1 (h.per.mem_iff.1 h1)
  have h3 := (Prod.mk.inj h2).1
  rw [← h3]
  exact hz e he
/-- Names that stand in one place of one chain are put in another's place. -/
theorem mem_put {nn c : Nat} {C : Nat → List Ent} {E1 E2 P R : List Ent} {y : Ent} (M : List Ent) (hm : ∀ e, e ∈ E1 ++ y :: E2 ↔ ∃ k, k < nn ∧ e ∈ C k) (hid : ((E1 ++ y :: E2).map Ent.id).Nodup) (hc : c < nn) (hC : C c = P ++ y :: R) (hnd : ((C c).map Ent.name).Nodup) (hfar : ∀ k, k < nn → k ≠ c → ∀ e ∈ C k, e.name ≠ y.name) :
    ∀ e, e ∈ E1 ++ (M ++ E2) ↔ ∃ k, k < nn ∧ e ∈ upd C c (P ++ (M ++ R)) k := fun e => by
  have hne : ∀ e ∈ E1 ++ E2, e ≠ y := fun e he hy => by
    subst hy
    rw [List.map_append, List.map_cons, List.nodup_append] at hid
    obtain ⟨_, h2, h3⟩ := hid
    rw [List.nodup_cons] at h2
    rcases List.mem_append.1 he with he | he
    · exact h3 e.id (List.mem_map_of_mem he) e.id (by simp) rfl
    · exact h2.1 (List.mem_map_of_mem he)
  have hmid := nodup_mid (by rw [← hC]; exact hnd)
  constructor
  · intro he
    by_cases hM : e ∈ M
    · exact ⟨c, hc, by rw [upd_same]; simp [hM]⟩
    · have he1 : e ∈ E1 ++ E2 := by simpa [hM] using he
      obtain ⟨k, hk, hek⟩ := (hm e).1 (by rcases List.mem_append.1 he1 with h | h <;> simp [h])
      by_cases hkc : k = c
      · subst hkc
        rw [hC] at hek
        refine ⟨k, hk, ?_⟩
        rw [upd_same]
        rcases List.mem_append.1 hek with h | h
        · simp [h]
        · rcases List.mem_cons.1 h with h | h
          · exact absurd h (hne e he1)
          · simp [h]
      · exact ⟨k, hk, by rw [upd_other hkc]; exact hek⟩
  · rintro ⟨k, hk, hek⟩
    by_cases hM : e ∈ M
    · simp [hM]
    · have key : e ∈ E1 ++ y :: E2 → e ≠ y → e ∈ E1 ++ (M ++ E2) := fun h h' => by
        rcases List.mem_append.1 h with h | h
        · simp [h]
        · rcases List.mem_cons.1 h with h | h
          · exact absurd h h'
          · simp [h]
      by_cases hkc : k = c
      · subst hkc
        rw [upd_same] at hek
        have h1 : e ∈ P ++ R := by simpa [hM] using hek
        exact key ((hm e).2 ⟨k, hk, by rw [hC]; rcases List.mem_append.1 h1 with h | h <;> simp [h]⟩) fun h => hmid e h1 (by rw [h])
      · rw [upd_other hkc] at hek
        exact key ((hm e).2 ⟨k, hk, hek⟩) fun h => hfar k hk hkc e hek (by rw [h])
theorem TS.use {x : Nat → Prop} {t : TB} {B nn c u : Nat} {E1 E2 : List Ent} {n0 : Nat} {C : Nat → List Ent} {F : List Nat} {L : List Bl} {w w' : World} {y : Ent} (h : TS x t B nn (E1 ++ y :: E2) n0 C F L w) (hc : c < nn) (hy : y ∈ C c) (hu : u < 2147483648) (k : AddUp x t.A B C L n0 c y u w w') :
    ∃ C' L', TS x t B nn (E1 ++ ⟨y.id, u, y.name⟩ :: E2) n0 C' F L' w' ∧ LX x t.A B L' n0 w w' := by
  obtain ⟨P, R, L1, L2, hC, rfl, hk⟩ := k
  have hlen : (E1 ++ ⟨y.id, u, y.name⟩ :: E2).length = (E1 ++ y :: E2).length := by simp
  refine ⟨upd C c (P ++ ⟨y.id, u, y.name⟩ :: R), _, ⟨hk.at_, ?_, ?_, ?_, ?_⟩, hk⟩
  · rw [hlen]; exact h.tb.lx hk
  · rw [hlen]; exact h.ti.use h.hx.each.1 hc hC hu
  · exact mem_put [⟨y.id, u, y.name⟩] h.mem h.ids hc hC (h.ti.names c hc) fun k hk hkc e he => h.ti.far hc hk hkc hy he
  · have e1 : lens (L1 ++ (y.id, blkE u (headId R) y.name) :: L2) = lens (L1 ++ (y.id, blkE y.uses (headId R) y.name) :: L2) := by unfold lens; simp [blkE_len]
    have e2 : idl (E1 ++ ⟨y.id, u, y.name⟩ :: E2) = idl (E1 ++ y :: E2) := by unfold idl; simp
    rw [e1, e2]
    exact h.per
theorem TS.cut {x : Nat → Prop} {t : TB} {B nn c : Nat} {E1 E2 : List Ent} {n0 : Nat} {C : Nat → List Ent} {F : List Nat} {L : List Bl} {w w' : World} {y : Ent} (h : TS x t B nn (E1 ++ y :: E2) n0 C F L w) (hc : c < nn) (hy : y ∈ C c) (k : DropLast x t B nn (E1 ++ E2).length C F L n0 c y w w') :
    ∃ C' F' L', TS x t B nn (E1 ++ E2) n0 C' F' L' w' ∧ LT x t F' (E1 ++ E2).length B L' n0 w w' := by
  obtain ⟨P, R, F', L1, L2, M1, M2, b, hC, hI, hL, hb, e1, e2, hk⟩ := k
  refine ⟨upd C c (P ++ R), F', _, ⟨hk.at_, hk.tb, hI, ?_, ?_⟩, hk⟩
  · exact mem_put [] h.mem h.ids hc hC (h.ti.names c hc) fun k hk hkc e he => h.ti.far hc hk hkc hy he
  · have hp := h.per
    rw [hL] at hp
    unfold lens idl at hp
    rw [List.map_append, List.map_append, List.map_cons, List.map_cons] at hp
    have h1 := (List.perm_middle.symm.trans hp).trans List.perm_middle
    simp only [hb] at h1
    have h2 := h1.cons_inv
    unfold lens at e1 e2 ⊢
    unfold idl
    rw [List.map_append, List.map_append, e1, e2]
    exact h2
/-- The least id that no name has. -/
def LeastE (E : List Ent) (i : Nat) : Prop := 1 ≤ i ∧ (∀ e ∈ E, e.id ≠ i) ∧ ∀ j, 1 ≤ j → j < i → ∃ e ∈ E, e.id = j
theorem TS.push {x : Nat → Prop} {t : TB} {B nn : Nat} {E : List Ent} {n0 : Nat} {C : Nat → List Ent} {F : List Nat} {L : List Bl} {w w' : World} {l : List UInt8} {e : Ending} (h : TS x t B nn E n0 C F L w) (hl : l.length ≤ 300) (hn : ∀ e ∈ E, e.name ≠ l) (hE : E.length < 1000000) (k : PutOk x t B nn E.length C F L n0 l w e w') :
    ∃ (i : Nat) (C' : Nat → List Ent) (F' : List Nat) (L' : List Bl), e = .returned (.tuple #[.int .i64 (i : Int), .int .i64 0]) ∧ LeastE E i ∧ TS x t B nn (E ++ [⟨i, 1, l⟩]) n0 C' F' L' w' ∧ LT x t F' (E.length + 1) B L' n0 w w' := by
  obtain ⟨L1, L2, rfl, hle, he, hk⟩ := k
  have hid := least_le h.hx
  refine ⟨L1.length + 1, upd C (hashN l % nn) (⟨L1.length + 1, 1, l⟩ :: C (hashN l % nn)), _, _, he, ⟨by omega, ?_, ?_⟩, ⟨hk.at_, ?_, ?_, ?_, ?_⟩, hk⟩
  · intro e he hi
    have h1 : (e.id, e.name.length + 8) ∈ idl E := List.mem_map.2 ⟨e, he, rfl⟩
    obtain ⟨b, hb, h2⟩ := List.mem_map.1 (h.per.mem_iff.2 h1)
    have h3 := (Prod.mk.inj h2).1
    rcases List.mem_append.1 hb with hb | hb
    · obtain ⟨j, hj, rfl⟩ := List.mem_iff_getElem.1 hb
      have := hle.1 j hj
      omega
    · have := hle.2 b hb
      omega
  · intro j hj1 hj2
    have hj : j - 1 < L1.length := by omega
    have h1 := hle.1 (j - 1) hj
    have h2 : (L1[j - 1].1, L1[j - 1].2.length) ∈ lens (L1 ++ L2) := List.mem_map.2 ⟨L1[j - 1], by simp, rfl⟩
    obtain ⟨e, he, h3⟩ := List.mem_map.1 (h.per.mem_iff.1 h2)
    exact ⟨e, he, by have := (Prod.mk.inj h3).1; omega⟩
  · rw [List.length_append]; exact hk.tb
  · rw [List.length_append]
    exact h.ti.push (by omega) hl (h.no hn) hE
  · intro e
    have hc : hashN l % nn < nn := Nat.mod_lt _ h.ti.pos
    constructor
    · intro he
      rcases List.mem_append.1 he with he | he
      · obtain ⟨k, hk, hek⟩ := (h.mem e).1 he
        refine ⟨k, hk, ?_⟩
        by_cases hkc : k = hashN l % nn
        · subst hkc; rw [upd_same]; exact List.mem_cons_of_mem _ hek
        · rw [upd_other hkc]; exact hek
      · rw [List.mem_singleton] at he
        subst he
        exact ⟨_, hc, by rw [upd_same]; simp⟩
    · rintro ⟨k, hk, hek⟩
      by_cases hkc : k = hashN l % nn
      · subst hkc
        rw [upd_same] at hek
        rcases List.mem_cons.1 hek with rfl | hek
        · simp
        · exact List.mem_append_left _ ((h.mem e).2 ⟨_, hk, hek⟩)
      · rw [upd_other hkc] at hek
        exact List.mem_append_left _ ((h.mem e).2 ⟨_, hk, hek⟩)
  · have hp := h.per
    unfold lens idl at hp ⊢
    rw [List.map_append] at hp
    rw [List.map_append, List.map_append, List.map_cons]
    refine List.perm_middle.trans (((List.Perm.cons _ hp)).trans ?_)
    rw [blkE_len, Nat.add_comm 8 l.length]
    exact (List.perm_append_singleton _ _).symm
end Go.Proofs.YtbmppnfliiiobaaDoor

/- Package intern: each call, by names. -/
set_option maxRecDepth 100000
namespace Go.Proofs.YtbmppnfliiiobaaDoor
open Go.RowKit Go.Shelf
attribute [local go_sem] Oper.semAt_some
def TV (x : Nat → Prop) (t : TB) (B : Nat) (E : List Ent) (n0 : Nat) (w : World) : Prop := ∃ nn C F L, TS x t B nn E n0 C F L w
/-- What a call leaves alone. -/
structure TK (x : Nat → Prop) (t : TB) (n0 : Nat) (w w' : World) : Prop where
  below : Below n0 w w'
  own : ∀ k, x k → k ≠ t.T → k ≠ t.F → w'.heap[k]? = w.heap[k]?
theorem TK.trans {x : Nat → Prop} {t : TB} {n0 : Nat} {w w1 w2 : World} (h : TK x t n0 w w1) (k : TK x t n0 w1 w2) : TK x t n0 w w2 := ⟨h.below.trans k.below, fun j hj h1 h2 => (k.own j hj h1 h2).trans (h.own j hj h1 h2)⟩
theorem TK.refl (x : Nat → Prop) (t : TB) (n0 : Nat) (w : World) : TK x t n0 w w := ⟨Below.refl _ w, fun _ _ _ _ => rfl⟩
theorem LX.tk {x : Nat → Prop} {t : TB} {B : Nat} {L : List Bl} {n0 : Nat} {w w' : World} (h : LX x t.A B L n0 w w') : TK x t n0 w w' := ⟨h.below, fun k hk _ _ => h.own k hk⟩
theorem LT.tk {x : Nat → Prop} {t : TB} {F : List Nat} {cnt B : Nat} {L : List Bl} {n0 : Nat} {w w' : World} (h : LT x t F cnt B L n0 w w') : TK x t n0 w w' := ⟨h.below, h.own⟩
theorem TS.lx {x : Nat → Prop} {t : TB} {B nn : Nat} {E : List Ent} {n0 : Nat} {C : Nat → List Ent} {F : List Nat} {L : List Bl} {w w' : World} (h : TS x t B nn E n0 C F L w) (k : LX x t.A B L n0 w w') : TV x t B E n0 w' := ⟨nn, C, F, L, k.at_, h.tb.lx k, h.ti, h.mem, h.per⟩
theorem TV.after {x : Nat → Prop} {t : TB} {B : Nat} {E : List Ent} {n0 : Nat} {w w' : World} (h : TV x t B E n0 w) (hb : Below w.heap.size w w') : TV x t B E n0 w' ∧ TK x t n0 w w' := by
  obtain ⟨nn, C, F, L, h⟩ := h
  exact ⟨h.lx (h.hx.lx hb), (h.hx.lx hb).tk⟩
theorem TS.count {x : Nat → Prop} {t : TB} {B nn : Nat} {E : List Ent} {n0 : Nat} {C : Nat → List Ent} {F : List Nat} {L : List Bl} {w : World} (h : TS x t B nn E n0 C F L w) : E.length ≤ 65536 := by
  have h1 := h.per.length_eq
  unfold lens idl at h1
  rw [List.length_map, List.length_map] at h1
  rw [← h1]
  exact least_le (L1 := L) (L2 := []) (by rw [List.append_nil]; exact h.hx)
def AddRet (x : Nat → Prop) (t : TB) (B : Nat) (E : List Ent) (n0 : Nat) (w : World) (w' : World) : Prop := TV x t B E n0 w' ∧ TK x t n0 w w'
theorem tv_use (x : Nat → Prop) (t : TB) (B : Nat) (E1 E2 : List Ent) (y : Ent) (n0 : Nat) (n : List UInt8) (w : World) (h : TV x t B (E1 ++ y :: E2) n0 w) (hv : Nm.valid n = true) (hz : Nm.fold n = y.name) (hl : n.length ≤ 100000) (hu : y.uses + 1 < 2147483648) :
    Calls Tryd.prog 36 #[.pointer (some ⟨t.T, 0, none⟩), .string ⟨n.toArray⟩] w fun e w' => e = .returned (.tuple #[.int .i64 (y.id : Int), .int .i64 0]) ∧ AddRet x t B (E1 ++ ⟨y.id, y.uses + 1, y.name⟩ :: E2) n0 w w' := by
  obtain ⟨nn, C, F, L, h⟩ := h
  obtain ⟨c, hc, hy⟩ := (h.mem y).1 (by simp)
  refine (add_found x t B nn _ C F L n0 c y n w h.hx h.tb h.ti hc hy hv hz hl).mono fun e w' ⟨he, hk⟩ => ?_
  obtain ⟨C', L', h', hk'⟩ := h.use hc hy hu hk
  exact ⟨he, ⟨nn, C', F, L', h'⟩, hk'.tk⟩
theorem tv_new (x : Nat → Prop) (t : TB) (B : Nat) (E : List Ent) (n0 : Nat) (n l : List UInt8) (w : World) (h : TV x t B E n0 w) (hv : Nm.valid n = true) (hz : Nm.fold n = l) (hl : n.length ≤ 100000) (hl2 : l.length ≤ 300) (hn : ∀ e ∈ E, e.name ≠ l) (hr : costE E + Ar.cost (l.length + 8) ≤ B) :
    Calls Tryd.prog 36 #[.pointer (some ⟨t.T, 0, none⟩), .string ⟨n.toArray⟩] w fun e w' => ∃ i : Nat, e = .returned (.tuple #[.int .i64 (i : Int), .int .i64 0]) ∧ LeastE E i ∧ AddRet x t B (E ++ [⟨i, 1, l⟩]) n0 w w' := by
  obtain ⟨nn, C, F, L, h⟩ := h
  have hE := h.count
  refine (add_new x t B nn _ C F L n0 n l w h.hx h.tb h.ti hv hz hl hl2 (h.no hn)).mono fun e w' hk => ?_
  rcases hk with ⟨hk, _⟩ | ⟨_, hk⟩
  · rw [h.sum] at hk; omega
  · obtain ⟨i, C', F', L', he, hi, h', hk'⟩ := h.push hl2 hn (by omega) hk
    exact ⟨i, he, hi, ⟨nn, C', F', L', h'⟩, hk'.tk⟩
theorem tv_full (x : Nat → Prop) (t : TB) (B : Nat) (E : List Ent) (n0 : Nat) (n l : List UInt8) (w : World) (h : TV x t B E n0 w) (hv : Nm.valid n = true) (hz : Nm.fold n = l) (hl : n.length ≤ 100000) (hl2 : l.length ≤ 300) (hn : ∀ e ∈ E, e.name ≠ l) (hr : B < costE E + Ar.cost (l.length + 8)) :
    Calls Tryd.prog 36 #[.pointer (some ⟨t.T, 0, none⟩), .string ⟨n.toArray⟩] w fun e w' => e = .returned (.tuple #[.int .i64 0, .int .i64 4]) ∧ AddRet x t B E n0 w w' := by
  obtain ⟨nn, C, F, L, h⟩ := h
  refine (add_new x t B nn _ C F L n0 n l w h.hx h.tb h.ti hv hz hl hl2 (h.no hn)).mono fun e w' hk => ?_
  rcases hk with ⟨_, he, hk⟩ | ⟨hk, _⟩
  · exact ⟨he, ⟨nn, C, F, L, hk.at_, hk.tb, h.ti, h.mem, h.per⟩, hk.tk⟩
  · rw [h.sum] at hk; omega
theorem tv_less (x : Nat → Prop) (t : TB) (B : Nat) (E1 E2 : List Ent) (y : Ent) (u n0 : Nat) (z : Int) (w : World) (h : TV x t B (E1 ++ y :: E2) n0 w) (hu : y.uses = u + 1) (hu1 : 1 ≤ u) (hz : z = (y.id : Int)) :
    Calls Tryd.prog 38 #[.pointer (some ⟨t.T, 0, none⟩), .int .i64 z] w fun e w' => e = .returned (.int .i64 0) ∧ AddRet x t B (E1 ++ ⟨y.id, u, y.name⟩ :: E2) n0 w w' := by
  obtain ⟨nn, C, F, L, h⟩ := h
  obtain ⟨c, hc, hy⟩ := (h.mem y).1 (by simp)
  have hs := (h.ti.small c hc y hy).1
  refine (drop_less x t B nn _ C F L n0 c y u z w h.hx h.tb h.ti hc hy hu hu1 hz).mono fun e w' ⟨he, hk⟩ => ?_
  obtain ⟨C', L', h', hk'⟩ := h.use hc hy (by omega) hk
  exact ⟨he, ⟨nn, C', F, L', h'⟩, hk'.tk⟩
theorem tv_last (x : Nat → Prop) (t : TB) (B : Nat) (E1 E2 : List Ent) (y : Ent) (n0 : Nat) (z : Int) (w : World) (h : TV x t B (E1 ++ y :: E2) n0 w) (hu : y.uses = 1) (hz : z = (y.id : Int)) :
    Calls Tryd.prog 38 #[.pointer (some ⟨t.T, 0, none⟩), .int .i64 z] w fun e w' => e = .returned (.int .i64 0) ∧ AddRet x t B (E1 ++ E2) n0 w w' := by
  obtain ⟨nn, C, F, L, h⟩ := h
  obtain ⟨c, hc, hy⟩ := (h.mem y).1 (by simp)
  have hlen : (E1 ++ y :: E2).length = (E1 ++ E2).length + 1 := by simp; omega
  refine (drop_last x t B nn (E1 ++ E2).length C F L n0 c y z w h.hx (by rw [← hlen]; exact h.tb) (by rw [← hlen]; exact h.ti) hc hy hu hz).mono fun e w' ⟨he, hk⟩ => ?_
  obtain ⟨C', F', L', h', hk'⟩ := h.cut hc hy hk
  exact ⟨he, ⟨nn, C', F', L', h'⟩, hk'.tk⟩
theorem tv_none (x : Nat → Prop) (t : TB) (B : Nat) (E : List Ent) (n0 : Nat) (z : Int) (w : World) (h : TV x t B E n0 w) (hz : ∀ e ∈ E, (e.id : Int) ≠ z) :
    Calls Tryd.prog 38 #[.pointer (some ⟨t.T, 0, none⟩), .int .i64 z] w fun e w' => e = .returned (.int .i64 5) ∧ AddRet x t B E n0 w w' := by
  obtain ⟨nn, C, F, L, h⟩ := h
  exact (drop_none x t B _ F L n0 z w h.hx h.tb (h.noid hz)).mono fun e w' ⟨he, hk, _⟩ => ⟨he, h.lx hk, hk.tk⟩
theorem tv_name (x : Nat → Prop) (t : TB) (B : Nat) (E : List Ent) (y : Ent) (n0 : Nat) (z : Int) (w : World) (h : TV x t B E n0 w) (hy : y ∈ E) (hz : z = (y.id : Int)) :
    Calls Tryd.prog 71 #[.pointer (some ⟨t.T, 0, none⟩), .int .i64 z] w fun e w' => e = .returned (.tuple #[.string ⟨y.name.toArray⟩, .bool true]) ∧ AddRet x t B E n0 w w' := by
  obtain ⟨nn, C, F, L, h⟩ := h
  obtain ⟨c, hc, hy⟩ := (h.mem y).1 hy
  exact (name_yes x t B nn _ C F L n0 c y z w h.hx h.tb h.ti hc hy hz).mono fun e w' ⟨he, hk, _⟩ => ⟨he, h.lx hk, hk.tk⟩
theorem tv_noname (x : Nat → Prop) (t : TB) (B : Nat) (E : List Ent) (n0 : Nat) (z : Int) (w : World) (h : TV x t B E n0 w) (hz : ∀ e ∈ E, (e.id : Int) ≠ z) :
    Calls Tryd.prog 71 #[.pointer (some ⟨t.T, 0, none⟩), .int .i64 z] w fun e w' => e = .returned (.tuple #[.string ⟨#[]⟩, .bool false]) ∧ AddRet x t B E n0 w w' := by
  obtain ⟨nn, C, F, L, h⟩ := h
  exact (name_no x t B _ F L n0 z w h.hx h.tb (h.noid hz)).mono fun e w' ⟨he, hk, _⟩ => ⟨he, h.lx hk, hk.tk⟩
theorem tv_uses (x : Nat → Prop) (t : TB) (B : Nat) (E : List Ent) (y : Ent) (n0 : Nat) (z : Int) (w : World) (h : TV x t B E n0 w) (hy : y ∈ E) (hz : z = (y.id : Int)) :
    Calls Tryd.prog 47 #[.pointer (some ⟨t.T, 0, none⟩), .int .i64 z] w fun e w' => e = .returned (.int .i64 (y.uses : Int)) ∧ AddRet x t B E n0 w w' := by
  obtain ⟨nn, C, F, L, h⟩ := h
  obtain ⟨c, hc, hy⟩ := (h.mem y).1 hy
  exact (uses_yes x t B nn _ C F L n0 c y z w h.hx h.tb h.ti hc hy hz).mono fun e w' ⟨he, hk, _⟩ => ⟨he, h.lx hk, hk.tk⟩
theorem tv_nouses (x : Nat → Prop) (t : TB) (B : Nat) (E : List Ent) (n0 : Nat) (z : Int) (w : World) (h : TV x t B E n0 w) (hz : ∀ e ∈ E, (e.id : Int) ≠ z) :
    Calls Tryd.prog 47 #[.pointer (some ⟨t.T, 0, none⟩), .int .i64 z] w fun e w' => e = .returned (.int .i64 0) ∧ AddRet x t B E n0 w w' := by
  obtain ⟨nn, C, F, L, h⟩ := h
  exact (uses_no x t B _ F L n0 z w h.hx h.tb (h.noid hz)).mono fun e w' ⟨he, hk, _⟩ => ⟨he, h.lx hk, hk.tk⟩
theorem tv_find (x : Nat → Prop) (t : TB) (B : Nat) (E : List Ent) (y : Ent) (n0 : Nat) (n : List UInt8) (w : World) (h : TV x t B E n0 w) (hy : y ∈ E) (hz : Nm.fold n = y.name) (hl : n.length ≤ 100000) :
    Calls Tryd.prog 41 #[.pointer (some ⟨t.T, 0, none⟩), .string ⟨n.toArray⟩] w fun e w' => e = .returned (.tuple #[.int .i64 (y.id : Int), .bool true]) ∧ AddRet x t B E n0 w w' := by
  obtain ⟨nn, C, F, L, h⟩ := h
  obtain ⟨c, hc, hy⟩ := (h.mem y).1 hy
  exact (tfind_yes x t B nn _ C F L n0 c y n w h.hx h.tb h.ti hc hy hz hl).mono fun e w' ⟨he, hk, _⟩ => ⟨he, h.lx hk, hk.tk⟩
theorem tv_nofind (x : Nat → Prop) (t : TB) (B : Nat) (E : List Ent) (n0 : Nat) (n : List UInt8) (w : World) (h : TV x t B E n0 w) (hl : n.length ≤ 100000) (hfl : (Nm.fold n).length ≤ 1000000) (hn : ∀ e ∈ E, e.name ≠ Nm.fold n) :
    Calls Tryd.prog 41 #[.pointer (some ⟨t.T, 0, none⟩), .string ⟨n.toArray⟩] w fun e w' => e = .returned (.tuple #[.int .i64 0, .bool false]) ∧ AddRet x t B E n0 w w' := by
  obtain ⟨nn, C, F, L, h⟩ := h
  exact (tfind_no x t B nn _ C F L n0 n w h.hx h.tb h.ti hl hfl (h.no hn)).mono fun e w' ⟨he, hk, _⟩ => ⟨he, h.lx hk, hk.tk⟩
theorem tv_count (x : Nat → Prop) (t : TB) (B : Nat) (E : List Ent) (n0 : Nat) (w : World) (h : TV x t B E n0 w) :
    Calls Tryd.prog 48 #[.pointer (some ⟨t.T, 0, none⟩)] w fun e w' => e = .returned (.int .i64 (E.length : Int)) ∧ w = w' := by
  obtain ⟨nn, C, F, L, h⟩ := h
  exact count_any x t F _ w h.tb
theorem tv_cost_yes (x : Nat → Prop) (t : TB) (B : Nat) (E : List Ent) (y : Ent) (n0 : Nat) (n : List UInt8) (w : World) (h : TV x t B E n0 w) (hy : y ∈ E) (hv : Nm.valid n = true) (hz : Nm.fold n = y.name) (hl : n.length ≤ 100000) :
    Calls Tryd.prog 43 #[.pointer (some ⟨t.T, 0, none⟩), .string ⟨n.toArray⟩] w fun e w' => e = .returned (.int .i64 0) ∧ AddRet x t B E n0 w w' := by
  obtain ⟨nn, C, F, L, h⟩ := h
  obtain ⟨c, hc, hy⟩ := (h.mem y).1 hy
  exact (icost_yes x t B nn _ C F L n0 c y n w h.hx h.tb h.ti hc hy hv hz hl).mono fun e w' ⟨he, hk, _⟩ => ⟨he, h.lx hk, hk.tk⟩
theorem tv_cost_no (x : Nat → Prop) (t : TB) (B : Nat) (E : List Ent) (n0 : Nat) (n : List UInt8) (w : World) (h : TV x t B E n0 w) (hv : Nm.valid n = true) (hl : n.length ≤ 100000) (hfl : (Nm.fold n).length ≤ 1000000) (hn : ∀ e ∈ E, e.name ≠ Nm.fold n) :
    Calls Tryd.prog 43 #[.pointer (some ⟨t.T, 0, none⟩), .string ⟨n.toArray⟩] w fun e w' => e = .returned (.int .i64 (Ar.costI ((n.length + 8 : Nat) : Int) : Int)) ∧ AddRet x t B E n0 w w' := by
  obtain ⟨nn, C, F, L, h⟩ := h
  exact (icost_no x t B nn _ C F L n0 n w h.hx h.tb h.ti hv hl hfl (h.no hn)).mono fun e w' ⟨he, hk, _⟩ => ⟨he, h.lx hk, hk.tk⟩
end Go.Proofs.YtbmppnfliiiobaaDoor

/- awake of chapter 7's laws: its calls. -/
set_option maxRecDepth 100000
namespace Go.Proofs.YtbmppnfliiiobaaDoor
open Go.RowKit Go.Shelf
attribute [local go_sem] Oper.semAt_some
def xt (t : TB) (k : Nat) : Prop := k = t.F ∨ k = t.T
theorem inew_tv (A B : Nat) (n0 : Nat) (w : World) (h : HX (fun _ => False) A B [] n0 w) :
    Calls Tryd.prog 35 #[.pointer (some ⟨A, 0, none⟩)] w fun e w' => ∃ T F, e = .returned (.pointer (some ⟨T, 0, none⟩)) ∧ TV (xt ⟨A, T, F⟩) ⟨A, T, F⟩ B [] n0 w' ∧ Below w.heap.size w w' := by
  have hB := h.sum_le.2
  refine (inew_any _ A B [] n0 w h).mono fun e w' ⟨T, F, he, hx, ht, hb⟩ => ⟨T, F, he, ⟨_, _, _, [], ⟨hx.less (fun k hk => by rcases hk with rfl | rfl <;> simp), ⟨ht.box, ht.row, .inr rfl, .inl rfl⟩, ti_empty B (by omega) [], fun e => ⟨fun h => (by cases h), fun ⟨c, hc, h⟩ => (by cases h)⟩, List.Perm.refl _⟩⟩, hb⟩
theorem tv_used (x : Nat → Prop) (t : TB) (B : Nat) (E : List Ent) (n0 : Nat) (w : World) (h : TV x t B E n0 w) :
    Calls Tryd.prog 31 #[.pointer (some ⟨t.A, 0, none⟩)] w fun e w' => e = .returned (.int .i64 (costE E : Int)) ∧ w = w' := by
  obtain ⟨nn, C, F, L, h⟩ := h
  rw [← h.sum]
  exact used_x x t.A B L n0 w h.hx
set_option maxHeartbeats 4000000 in
theorem count_nil (w : World) : Calls Tryd.prog 48 #[.pointer none] w fun e w' => e = .returned (.int .i64 0) ∧ w = w' := by
  go_enter Tryd.func48, Tryd.ntmps48
  go_wp2
  go_ret
  exact ⟨rfl, rfl⟩
def nmA : List UInt8 := [1, 97, 0]
theorem aw7_add1 (t : TB) (n0 : Nat) (w : World) (h : TV (xt t) t 1024 [] n0 w) :
    Calls Tryd.prog 36 #[.pointer (some ⟨t.T, 0, none⟩), .string ⟨#[1, 65, 0]⟩] w fun e w' => e = .returned (.tuple #[.int .i64 1, .int .i64 0]) ∧ AddRet (xt t) t 1024 [⟨1, 1, nmA⟩] n0 w w' := by
  refine (tv_new (xt t) t 1024 [] n0 [1, 65, 0] nmA w h (by decide) (by decide) (by decide) (by decide) (fun e he => by cases he) (by decide)).mono fun e w' ⟨i, he, hi, hk⟩ => ?_
  have h1 : i = 1 := by
    have h2 := hi.1
    rcases Nat.lt_or_ge 1 i with h3 | h3
    · obtain ⟨e, he, _⟩ := hi.2.2 1 (by omega) h3
      cases he
    · omega
  subst h1
  exact ⟨he, hk⟩
theorem aw7_add2 (t : TB) (n0 : Nat) (w : World) (h : TV (xt t) t 1024 [⟨1, 1, nmA⟩] n0 w) :
    Calls Tryd.prog 36 #[.pointer (some ⟨t.T, 0, none⟩), .string ⟨#[1, 97, 0]⟩] w fun e w' => e = .returned (.tuple #[.int .i64 1, .int .i64 0]) ∧ AddRet (xt t) t 1024 [⟨1, 2, nmA⟩] n0 w w' :=
  tv_use (xt t) t 1024 [] [] ⟨1, 1, nmA⟩ n0 [1, 97, 0] w h (by decide) (by decide) (by decide) (by decide)
theorem aw7_bad (v : Value) (w : World) : Calls Tryd.prog 36 #[v, .string ⟨#[97]⟩] w fun e w' => e = .returned (.tuple #[.int .i64 0, .int .i64 2]) ∧ w = w' :=
  add_bad v [97] w (by decide) (by decide)
theorem aw7_name (t : TB) (n0 : Nat) (w : World) (h : TV (xt t) t 1024 [⟨1, 2, nmA⟩] n0 w) :
    Calls Tryd.prog 71 #[.pointer (some ⟨t.T, 0, none⟩), .int .i64 1] w fun e w' => e = .returned (.tuple #[.string ⟨#[1, 97, 0]⟩, .bool true]) ∧ AddRet (xt t) t 1024 [⟨1, 2, nmA⟩] n0 w w' :=
  tv_name (xt t) t 1024 _ ⟨1, 2, nmA⟩ n0 1 w h (by simp) rfl
theorem aw7_cost (t : TB) (n0 : Nat) (w : World) (h : TV (xt t) t 1024 [⟨1, 2, nmA⟩] n0 w) :
    Calls Tryd.prog 43 #[.pointer (some ⟨t.T, 0, none⟩), .string ⟨#[1, 98, 0]⟩] w fun e w' => e = .returned (.int .i64 32) ∧ AddRet (xt t) t 1024 [⟨1, 2, nmA⟩] n0 w w' := by
  have h1 := tv_cost_no (xt t) t 1024 _ n0 [1, 98, 0] w h (by decide) (by decide) (by decide) (fun e he => by rw [List.mem_singleton] at he; subst he; decide)
  rw [show (Ar.costI (([1, 98, 0] : List UInt8).length + 8 : Nat) : Int) = 32 by decide] at h1
  exact h1
theorem aw7_uses (t : TB) (n0 : Nat) (w : World) (h : TV (xt t) t 1024 [⟨1, 2, nmA⟩] n0 w) :
    Calls Tryd.prog 47 #[.pointer (some ⟨t.T, 0, none⟩), .int .i64 1] w fun e w' => e = .returned (.int .i64 2) ∧ AddRet (xt t) t 1024 [⟨1, 2, nmA⟩] n0 w w' :=
  tv_uses (xt t) t 1024 _ ⟨1, 2, nmA⟩ n0 1 w h (by simp) rfl
theorem aw7_drop1 (t : TB) (n0 : Nat) (w : World) (h : TV (xt t) t 1024 [⟨1, 2, nmA⟩] n0 w) :
    Calls Tryd.prog 38 #[.pointer (some ⟨t.T, 0, none⟩), .int .i64 1] w fun e w' => e = .returned (.int .i64 0) ∧ AddRet (xt t) t 1024 [⟨1, 1, nmA⟩] n0 w w' :=
  tv_less (xt t) t 1024 [] [] ⟨1, 2, nmA⟩ 1 n0 1 w h rfl (by decide) rfl
theorem aw7_drop2 (t : TB) (n0 : Nat) (w : World) (h : TV (xt t) t 1024 [⟨1, 1, nmA⟩] n0 w) :
    Calls Tryd.prog 38 #[.pointer (some ⟨t.T, 0, none⟩), .int .i64 1] w fun e w' => e = .returned (.int .i64 0) ∧ AddRet (xt t) t 1024 [] n0 w w' :=
  tv_last (xt t) t 1024 [] [] ⟨1, 1, nmA⟩ n0 1 w h rfl rfl
theorem aw7_drop3 (t : TB) (n0 : Nat) (w : World) (h : TV (xt t) t 1024 [] n0 w) :
    Calls Tryd.prog 38 #[.pointer (some ⟨t.T, 0, none⟩), .int .i64 1] w fun e w' => e = .returned (.int .i64 5) ∧ AddRet (xt t) t 1024 [] n0 w w' :=
  tv_none (xt t) t 1024 [] n0 1 w h (fun e he => by cases he)
end Go.Proofs.YtbmppnfliiiobaaDoor

/- awake of chapter 7's laws is true. -/
set_option maxRecDepth 100000
namespace Go.Proofs.YtbmppnfliiiobaaDoor
open Go.RowKit Go.Shelf
attribute [local go_sem] Oper.semAt_some
set_option maxHeartbeats 16000000 in
theorem awake7_any (w : World) (hT : TabOk w) : Calls Tryd.prog 34 #[] w fun e w' => e = .returned (.bool true) ∧ Below w.heap.size w w' := by
  have HNW := Lib.hid (new_x 1024 w (by decide) (by decide) hT)
  have HNIL := Lib.hid (fun W => add_nil [0] W (by decide) (by decide))
  go_enter Tryd.func34, Tryd.ntmps34
  go_wp2_with fail
  refine HNW.out.mono ?_
  rintro e w1 ⟨A, rfl, hx, b1⟩
  have HX1 := Lib.hid hx
  have HB1 := Lib.hid b1
  clear hx b1 HNW
  go_wp2_with fail
  refine (inew_tv A 1024 _ w1 HX1.out).mono ?_
  rintro e w2 ⟨T, F, rfl, hv, b2⟩
  have HV := Lib.hid hv
  have HB := Lib.hid (HB1.out.trans (b2.mono HB1.out.size))
  clear hv b2 HX1 HB1
  go_wp2_with fail
  refine (aw7_add1 ⟨A, T, F⟩ _ w2 HV.out).mono ?_
  rintro e w3 ⟨rfl, hv, hk⟩
  have HV := Lib.hid hv
  have HB := Lib.hid (HB.out.trans hk.below)
  clear hv hk
  go_wp2_with fail
  refine (aw7_add2 ⟨A, T, F⟩ _ w3 HV.out).mono ?_
  rintro e w4 ⟨rfl, hv, hk⟩
  have HV := Lib.hid hv
  have HB := Lib.hid (HB.out.trans hk.below)
  clear hv hk
  go_wp2_with fail
  refine (aw7_bad _ w4).mono ?_
  rintro e w' ⟨rfl, rfl⟩
  go_wp2_with fail
  refine (aw7_name ⟨A, T, F⟩ _ w4 HV.out).mono ?_
  rintro e w5 ⟨rfl, hv, hk⟩
  have HV := Lib.hid hv
  have HB := Lib.hid (HB.out.trans hk.below)
  clear hv hk
  go_wp2_with fail
  refine (aw7_cost ⟨A, T, F⟩ _ w5 HV.out).mono ?_
  rintro e w6 ⟨rfl, hv, hk⟩
  have HV := Lib.hid hv
  have HB := Lib.hid (HB.out.trans hk.below)
  clear hv hk
  go_wp2_with fail
  refine (aw7_uses ⟨A, T, F⟩ _ w6 HV.out).mono ?_
  rintro e w7 ⟨rfl, hv, hk⟩
  have HV := Lib.hid hv
  have HB := Lib.hid (HB.out.trans hk.below)
  clear hv hk
  go_wp2_with fail
  refine (aw7_drop1 ⟨A, T, F⟩ _ w7 HV.out).mono ?_
  rintro e w8 ⟨rfl, hv, hk⟩
  have HV := Lib.hid hv
  have HB := Lib.hid (HB.out.trans hk.below)
  clear hv hk
  go_wp2_with fail
  refine (aw7_drop2 ⟨A, T, F⟩ _ w8 HV.out).mono ?_
  rintro e w9 ⟨rfl, hv, hk⟩
  have HV := Lib.hid hv
  have HB := Lib.hid (HB.out.trans hk.below)
  clear hv hk
  go_wp2_with fail
  refine (aw7_drop3 ⟨A, T, F⟩ _ w9 HV.out).mono ?_
  rintro e w10 ⟨rfl, hv, hk⟩
  have HV := Lib.hid hv
  have HB := Lib.hid (HB.out.trans hk.below)
  clear hv hk
  go_wp2_with fail
  refine (HNIL.out w10).mono ?_
  rintro e w' ⟨rfl, rfl⟩
  have HU := Lib.hid (tv_used _ ⟨A, T, F⟩ 1024 [] _ w10 HV.out)
  go_wp2_with (first
    | (go_at_call 31; refine HU.out.mono ?_; rintro e w' ⟨rfl, rfl⟩)
    | (go_at_call 48; refine (count_nil _).mono ?_; rintro e w' ⟨rfl, rfl⟩))
  go_ret
  exact ⟨rfl, HB.out⟩
end Go.Proofs.YtbmppnfliiiobaaDoor

/- InternOnce: its calls. -/
set_option maxRecDepth 100000
namespace Go.Proofs.YtbmppnfliiiobaaDoor
open Go.RowKit Go.Shelf
attribute [local go_sem] Oper.semAt_some
def onceE (l : List UInt8) (k : Nat) : List Ent := if k = 0 then [] else [⟨1, k, Nm.fold l⟩]
theorem onceE_pos (l : List UInt8) {k : Nat} (h : 0 < k) : onceE l k = [⟨1, k, Nm.fold l⟩] := by unfold onceE; rw [if_neg (by omega)]
structure OnceSt (t : TB) (l : List UInt8) (k n0 : Nat) (w wr : World) : Prop where
  tv : TV (xt t) t 4096 (onceE l k) n0 wr
  bel : Below w.heap.size w wr
theorem OnceSt.go {t : TB} {l : List UInt8} {k j n0 : Nat} {w w1 w2 : World} (h : OnceSt t l k n0 w w1) (hn : w.heap.size ≤ n0) (k' : AddRet (xt t) t 4096 (onceE l j) n0 w1 w2) : OnceSt t l j n0 w w2 := ⟨k'.1, h.bel.trans (k'.2.below.mono hn)⟩
theorem once_add (t : TB) (l s : List UInt8) (k n0 : Nat) (w W : World) (hn : w.heap.size ≤ n0) (hl : l.length ≤ 255) (hfl : (Nm.fold l).length = l.length) (hk : k < 30) (hs : s.length ≤ 255) (hv : Nm.valid s = true) (hz : Nm.fold s = Nm.fold l) (hc : Ar.cost (l.length + 8) ≤ 4096) (h : OnceSt t l k n0 w W) :
    Calls Tryd.prog 36 #[.pointer (some ⟨t.T, 0, none⟩), .string ⟨s.toArray⟩] W fun e w' => e = .returned (.tuple #[.int .i64 1, .int .i64 0]) ∧ OnceSt t l (k + 1) n0 w w' := by
  by_cases h0 : k = 0
  · subst h0
    have htv := h.tv
    unfold onceE at htv
    rw [if_pos rfl] at htv
    refine (tv_new (xt t) t 4096 [] n0 s (Nm.fold l) W htv hv hz (by omega) (by omega) (fun e he => by cases he) (by rw [hfl]; show 0 + _ ≤ _; omega)).mono fun e w' ⟨i, he, hi, hk⟩ => ?_
    have h1 : i = 1 := by
      have h2 := hi.1
      rcases Nat.lt_or_ge 1 i with h3 | h3
      · obtain ⟨e, he, _⟩ := hi.2.2 1 (by omega) h3
        cases he
      · omega
    subst h1
    exact ⟨he, h.go hn (by rw [onceE_pos l (by omega)]; exact hk)⟩
  · have htv := h.tv
    rw [onceE_pos l (by omega)] at htv
    exact (tv_use (xt t) t 4096 [] [] ⟨1, k, Nm.fold l⟩ n0 s W htv hv hz (by omega) (by simp only; omega)).mono fun e w' ⟨he, hk⟩ => ⟨he, h.go hn (by rw [onceE_pos l (by omega)]; exact hk)⟩
theorem once_uses (t : TB) (l : List UInt8) (k n0 : Nat) (w W : World) (hn : w.heap.size ≤ n0) (hk : 0 < k) (h : OnceSt t l k n0 w W) :
    Calls Tryd.prog 47 #[.pointer (some ⟨t.T, 0, none⟩), .int .i64 1] W fun e w' => e = .returned (.int .i64 (k : Int)) ∧ OnceSt t l k n0 w w' := by
  have htv := h.tv
  rw [onceE_pos l hk] at htv
  exact (tv_uses (xt t) t 4096 _ ⟨1, k, Nm.fold l⟩ n0 1 W htv (by simp) rfl).mono fun e w' ⟨he, hk'⟩ => ⟨he, h.go hn (by rw [onceE_pos l hk]; exact hk')⟩
theorem once_count (t : TB) (l : List UInt8) (k n0 : Nat) (w W : World) (hk : 0 < k) (h : OnceSt t l k n0 w W) :
    Calls Tryd.prog 48 #[.pointer (some ⟨t.T, 0, none⟩)] W fun e w' => e = .returned (.int .i64 1) ∧ W = w' := by
  have htv := h.tv
  rw [onceE_pos l hk] at htv
  exact tv_count (xt t) t 4096 _ n0 W htv
theorem once_count0 (t : TB) (l : List UInt8) (n0 : Nat) (w W : World) (h : OnceSt t l 0 n0 w W) :
    Calls Tryd.prog 48 #[.pointer (some ⟨t.T, 0, none⟩)] W fun e w' => e = .returned (.int .i64 0) ∧ W = w' :=
  tv_count (xt t) t 4096 [] n0 W h.tv
theorem once_used (t : TB) (l : List UInt8) (k n0 : Nat) (w W : World) (hfl : (Nm.fold l).length = l.length) (hk : 0 < k) (h : OnceSt t l k n0 w W) :
    Calls Tryd.prog 31 #[.pointer (some ⟨t.A, 0, none⟩)] W fun e w' => e = .returned (.int .i64 ((Ar.cost (l.length + 8) : Nat) : Int)) ∧ W = w' := by
  have htv := h.tv
  rw [onceE_pos l hk] at htv
  have h1 := tv_used (xt t) t 4096 _ n0 W htv
  rw [costE_cons] at h1
  rw [show costE [] = 0 from rfl] at h1
  simp only [hfl, Nat.add_zero] at h1
  exact h1
theorem once_used0 (t : TB) (l : List UInt8) (n0 : Nat) (w W : World) (h : OnceSt t l 0 n0 w W) :
    Calls Tryd.prog 31 #[.pointer (some ⟨t.A, 0, none⟩)] W fun e w' => e = .returned (.int .i64 0) ∧ W = w' :=
  tv_used (xt t) t 4096 [] n0 W h.tv
theorem once_drop (t : TB) (l : List UInt8) (k n0 : Nat) (w W : World) (hn : w.heap.size ≤ n0) (h : OnceSt t l (k + 1) n0 w W) :
    Calls Tryd.prog 38 #[.pointer (some ⟨t.T, 0, none⟩), .int .i64 1] W fun e w' => e = .returned (.int .i64 0) ∧ OnceSt t l k n0 w w' := by
  have htv := h.tv
  rw [onceE_pos l (by omega)] at htv
  by_cases h0 : k = 0
  · subst h0
    exact (tv_last (xt t) t 4096 [] [] ⟨1, 1, Nm.fold l⟩ n0 1 W htv rfl rfl).mono fun e w' ⟨he, hk⟩ => ⟨he, h.go hn hk⟩
  · exact (tv_less (xt t) t 4096 [] [] ⟨1, k + 1, Nm.fold l⟩ k n0 1 W htv rfl (by omega) rfl).mono fun e w' ⟨he, hk⟩ => ⟨he, h.go hn (by rw [onceE_pos l (by omega)]; exact hk)⟩
theorem once_drop0 (t : TB) (l : List UInt8) (n0 : Nat) (w W : World) (hn : w.heap.size ≤ n0) (h : OnceSt t l 0 n0 w W) :
    Calls Tryd.prog 38 #[.pointer (some ⟨t.T, 0, none⟩), .int .i64 1] W fun e w' => e = .returned (.int .i64 5) ∧ OnceSt t l 0 n0 w w' :=
  (tv_none (xt t) t 4096 [] n0 1 W h.tv (fun e he => by cases he)).mono fun e w' ⟨he, hk⟩ => ⟨he, h.go hn hk⟩
theorem once_find0 (t : TB) (l : List UInt8) (n0 : Nat) (w W : World) (hn : w.heap.size ≤ n0) (hl : l.length ≤ 255) (hfl : (Nm.fold l).length = l.length) (h : OnceSt t l 0 n0 w W) :
    Calls Tryd.prog 41 #[.pointer (some ⟨t.T, 0, none⟩), .string ⟨l.toArray⟩] W fun e w' => e = .returned (.tuple #[.int .i64 0, .bool false]) ∧ OnceSt t l 0 n0 w w' :=
  (tv_nofind (xt t) t 4096 [] n0 l W h.tv (by omega) (by omega) (fun e he => by cases he)).mono fun e w' ⟨he, hk⟩ => ⟨he, h.go hn hk⟩
end Go.Proofs.YtbmppnfliiiobaaDoor

/- InternOnce: its walk. -/
set_option maxRecDepth 100000
namespace Go.Proofs.YtbmppnfliiiobaaDoor
open Go.RowKit Go.Shelf
attribute [local go_sem] Oper.semAt_some
namespace Nm
theorem small_small (c : UInt8) : small (small c) = small c := by
  by_cases h : 65 ≤ c.toNat ∧ c.toNat ≤ 90
  · have := small_yes h.1 h.2
    exact small_no (by omega)
  · rw [small_no h, small_no h]
theorem folded_folded (n : List UInt8) : folded (folded n) = folded n := by simp [folded, small_small]
theorem valid_folded {n : List UInt8} (h : valid n = true) : valid (folded n) = true := by
  obtain ⟨_, e, g, l⟩ := labs_of_valid h
  unfold valid
  rw [e, folded_made g, labs_iff.2 ⟨rfl, good_folded g, by rw [← folded_made g, ← e, folded_length]; exact l⟩]
  rfl
theorem fold_folded {n : List UInt8} (h : valid n = true) : fold (folded n) = folded n := by
  unfold fold; rw [if_pos (valid_folded h), folded_folded]
end Nm
theorem OnceSt.after {t : TB} {l : List UInt8} {k n0 : Nat} {w w1 w2 : World} (h : OnceSt t l k n0 w w1) (hb : Below w1.heap.size w1 w2) : OnceSt t l k n0 w w2 := ⟨(h.tv.after hb).1, h.bel.trans (hb.mono h.bel.size)⟩
set_option maxHeartbeats 32000000 in
theorem once_in (l : List UInt8) (u : Nat) (w : World) (hT : TabOk w) (hl : l.length ≤ 255) (hv : Nm.valid l = true) (h1 : 1 ≤ u) (h2 : u ≤ 30) :
    Calls Tryd.prog 10 #[.string ⟨l.toArray⟩, .int .i64 (u : Int)] w fun e w' => e = .returned (.bool true) ∧ Below w.heap.size w w' := by
  have hg : 0 < w.heap.size := cell_lt (hT 0 (by decide))
  have HV := Lib.hid (by have k := rvalid_any l w (by omega); rw [hv] at k; exact k)
  have hf : Nm.fold l = Nm.folded l := by unfold Nm.fold; rw [if_pos hv]
  have hfl : (Nm.fold l).length = l.length := by rw [hf]; exact Nm.folded_length l
  have hcc : Ar.cost (l.length + 8) ≤ 4096 := by unfold Ar.cost; (repeat' split) <;> omega
  have hvf : Nm.valid (Nm.fold l) = true := by rw [hf]; exact Nm.valid_folded hv
  have hff : Nm.fold (Nm.fold l) = Nm.fold l := by rw [hf]; exact Nm.fold_folded hv
  have HADD := Lib.hid (fun (t : TB) (k n0 : Nat) (W : World) (hn : w.heap.size ≤ n0) (hk : k < 30) (h : OnceSt t l k n0 w W) => once_add t l l k n0 w W hn hl hfl hk hl hv rfl hcc h)
  have HADF := Lib.hid (fun (t : TB) (k n0 : Nat) (W : World) (hn : w.heap.size ≤ n0) (hk : k < 30) (h : OnceSt t l k n0 w W) => once_add t l (Nm.fold l) k n0 w W hn hl hfl hk (by rw [hfl]; exact hl) hvf hff hcc h)
  obtain ⟨cc, hcc2⟩ : ∃ cc, Ar.cost (l.length + 8) = cc := ⟨_, rfl⟩
  have HCO := Lib.hid (show ∀ W, Calls Tryd.prog 30 #[.int .i64 ((l.length : Int) + 8)] W fun e w' => e = .returned (.int .i64 (cc : Int)) ∧ W = w' from fun W => by
    have h := cost_call l.length ((l.length : Int) + 8) W (by omega)
    have e1 : Ar.costI ((l.length + 8 : Nat) : Int) = cc := by
      unfold Ar.costI
      rw [if_pos (by omega), ← hcc2]
      rfl
    rw [e1] at h
    exact h)
  have HUS := Lib.hid (fun (t : TB) (k n0 : Nat) (W : World) (hk : 0 < k) (h : OnceSt t l k n0 w W) => by have z := once_used t l k n0 w W hfl hk h; rw [hcc2] at z; exact z)
  have HUE := Lib.hid (fun (t : TB) (k n0 : Nat) (W : World) (hn : w.heap.size ≤ n0) (h : OnceSt t l (k + 1) n0 w W) => by have z := once_uses t l (k + 1) n0 w W hn (by omega) h; rw [show ((k + 1 : Nat) : Int) = (k : Int) + 1 by norm_cast] at z; exact z)
  have HFI := Lib.hid (fun (t : TB) (n0 : Nat) (W : World) (hn : w.heap.size ≤ n0) (h : OnceSt t l 0 n0 w W) => once_find0 t l n0 w W hn hl hfl h)
  have HFOL := Lib.hid (fun W => rfold_any l W (by omega))
  have HT := Lib.hid hT
  have HG := Lib.hid hg
  clear hT hg hf hfl hcc hvf hff hcc2 hv
  go_enter Tryd.func10, Tryd.ntmps10
  go_wp2_with fail
  refine HV.out.mono ?_
  rintro e w1 ⟨rfl, b1⟩
  have HB1 := Lib.hid b1
  have HT1 := Lib.hid (HT.out.below HG.out b1)
  clear b1 HV
  go_wp2_with fail
  refine (new_x 4096 w1 (by decide) (by decide) HT1.out).mono ?_
  rintro e w2 ⟨A, rfl, hx, b2⟩
  have HX2 := Lib.hid hx
  have HB2 := Lib.hid b2
  clear hx b2
  go_wp2_with fail
  refine (inew_tv A 4096 _ w2 HX2.out).mono ?_
  rintro e w3 ⟨T, F, rfl, hv, b3⟩
  have HS := Lib.hid (show OnceSt ⟨A, T, F⟩ l 0 w1.heap.size w w3 from ⟨hv, HB1.out.trans ((HB2.out.trans (b3.mono HB2.out.size)).mono HB1.out.size)⟩)
  have HN := Lib.hid HB1.out.size
  generalize w1.heap.size = n0 at HS HN HX2 HB2
  clear hv b3 HX2 HB2 HB1 HT1
  go_wp2
  go_loopw [8, 9] (fun id i wr => ∃ k j : Nat, i = .int .i64 (k : Int) ∧ id = .int .i64 (j : Int) ∧ k ≤ u ∧ (k = 0 ∨ j = 1) ∧ Hid (OnceSt ⟨A, T, F⟩ l k n0 w wr)) (fun _ i _ => u + 1 - (intOf i).toNat)
  case atStart => exact ⟨0, 0, rfl, rfl, Nat.zero_le _, .inl rfl, HS⟩
  case round =>
    obtain ⟨k, j, rfl, rfl, hk, hj, HF⟩ := hrel
    clear HS
    by_cases hlt : k < u
    · by_cases hk0 : k = 0
      · subst hk0
        go_wp2_with fail
        refine (HADD.out ⟨A, T, F⟩ 0 n0 _ HN.out (by omega) HF.out).mono ?_
        rintro e w5 ⟨rfl, hs⟩
        have HS5 := Lib.hid hs
        clear hs
        go_wp2_with fail
        refine (HUE.out ⟨A, T, F⟩ 0 n0 w5 HN.out HS5.out).mono ?_
        rintro e w6 ⟨rfl, hs⟩
        have HS6 := Lib.hid hs
        clear hs
        go_wp2_with (first
          | (go_at_call 48; refine (once_count ⟨A, T, F⟩ l 1 n0 w _ (by omega) HS6.out).mono ?_; rintro e w' ⟨rfl, rfl⟩)
          | (go_at_call 31; refine (HUS.out ⟨A, T, F⟩ 1 n0 _ (by omega) HS6.out).mono ?_; rintro e w' ⟨rfl, rfl⟩)
          | (go_at_call 30; refine (HCO.out _).mono ?_; rintro e w' ⟨rfl, rfl⟩))
        go_roundw
        case rel => exact ⟨1, 1, by go_num, rfl, by omega, .inr rfl, HS6⟩
        case measure => simp [intOf] <;> omega
      · obtain rfl : j = 1 := by omega
        by_cases hod : k % 2 = 1
        · have hrm : Int.tmod (k : Int) 2 = 1 := by rw [Int.tmod_eq_emod_of_nonneg (by omega)]; omega
          go_wp2_with fail
          refine (HFOL.out _).mono ?_
          rintro e w4 ⟨rfl, b4⟩
          have HF := Lib.hid (OnceSt.after HF.out b4)
          clear b4
          go_wp2_with fail
          refine (HADF.out ⟨A, T, F⟩ k n0 _ HN.out (by omega) HF.out).mono ?_
          rintro e w5 ⟨rfl, hs⟩
          have HS5 := Lib.hid hs
          clear hs
          go_wp2_with fail
          refine (HUE.out ⟨A, T, F⟩ k n0 w5 HN.out HS5.out).mono ?_
          rintro e w6 ⟨rfl, hs⟩
          have HS6 := Lib.hid hs
          clear hs
          go_wp2_with (first
            | (go_at_call 48; refine (once_count ⟨A, T, F⟩ l (k + 1) n0 w _ (by omega) HS6.out).mono ?_; rintro e w' ⟨rfl, rfl⟩)
            | (go_at_call 31; refine (HUS.out ⟨A, T, F⟩ (k + 1) n0 _ (by omega) HS6.out).mono ?_; rintro e w' ⟨rfl, rfl⟩)
            | (go_at_call 30; refine (HCO.out _).mono ?_; rintro e w' ⟨rfl, rfl⟩))
          go_roundw
          case rel => exact ⟨k + 1, 1, by go_num, rfl, by omega, .inr rfl, HS6⟩
          case measure => simp [intOf]; omega
        · have hrm : Int.tmod (k : Int) 2 = 0 := by rw [Int.tmod_eq_emod_of_nonneg (by omega)]; omega
          go_wp2_with fail
          refine (HADD.out ⟨A, T, F⟩ k n0 _ HN.out (by omega) HF.out).mono ?_
          rintro e w5 ⟨rfl, hs⟩
          have HS5 := Lib.hid hs
          clear hs
          go_wp2_with fail
          refine (HUE.out ⟨A, T, F⟩ k n0 w5 HN.out HS5.out).mono ?_
          rintro e w6 ⟨rfl, hs⟩
          have HS6 := Lib.hid hs
          clear hs
          go_wp2_with (first
            | (go_at_call 48; refine (once_count ⟨A, T, F⟩ l (k + 1) n0 w _ (by omega) HS6.out).mono ?_; rintro e w' ⟨rfl, rfl⟩)
            | (go_at_call 31; refine (HUS.out ⟨A, T, F⟩ (k + 1) n0 _ (by omega) HS6.out).mono ?_; rintro e w' ⟨rfl, rfl⟩)
            | (go_at_call 30; refine (HCO.out _).mono ?_; rintro e w' ⟨rfl, rfl⟩))
          go_roundw
          case rel => exact ⟨k + 1, 1, by go_num, rfl, by omega, .inr rfl, HS6⟩
          case measure => simp [intOf]; omega
    · obtain rfl : k = u := by omega
      obtain rfl : j = 1 := by omega
      go_wp2
      go_loopw [13] (fun i wr => ∃ q : Nat, i = .int .i64 (q : Int) ∧ q ≤ k ∧ Hid (OnceSt ⟨A, T, F⟩ l (k - q) n0 w wr)) (fun i _ => k + 1 - (intOf i).toNat)
      case atStart => exact ⟨0, rfl, Nat.zero_le _, HF⟩
      case round =>
        obtain ⟨q, rfl, hq, HF2⟩ := hrel
        clear HF
        by_cases hlt2 : q < k
        · obtain ⟨m, hm⟩ : ∃ m, k - q = m + 1 := ⟨k - q - 1, by omega⟩
          rw [hm] at HF2
          have HM := Lib.hid hm
          have HUE2 := Lib.hid (show Calls Tryd.prog 47 #[.pointer (some ⟨T, 0, none⟩), .int .i64 1] _ (fun e w' => e = .returned (.int .i64 ((k : Int) - (q : Int))) ∧ OnceSt ⟨A, T, F⟩ l (m + 1) n0 w w') from by have z := HUE.out ⟨A, T, F⟩ m n0 _ HN.out HF2.out; rw [show (m : Int) + 1 = (k : Int) - (q : Int) by omega] at z; exact z)
          clear hm
          go_wp2_with fail
          refine HUE2.out.mono ?_
          rintro e w6 ⟨rfl, hs⟩
          have HS6 := Lib.hid hs
          clear hs HUE2
          go_wp2_with fail
          refine (once_drop ⟨A, T, F⟩ l m n0 w w6 HN.out HS6.out).mono ?_
          rintro e w7 ⟨rfl, hs⟩
          have HS7 := Lib.hid (show OnceSt ⟨A, T, F⟩ l (k - (q + 1)) n0 w w7 by rw [show k - (q + 1) = m by have := HM.out; omega]; exact hs)
          clear hs
          go_wp2
          go_roundw
          case rel => exact ⟨q + 1, by go_num, by omega, HS7⟩
          case measure => simp [intOf]; omega
        · obtain rfl : q = k := by omega
          rw [Nat.sub_self] at HF2
          go_wp2_with fail
          refine (HFI.out ⟨A, T, F⟩ n0 _ HN.out HF2.out).mono ?_
          rintro e w6 ⟨rfl, hs⟩
          have HS6 := Lib.hid hs
          clear hs
          go_wp2_with (first
            | (go_at_call 48; refine (once_count0 ⟨A, T, F⟩ l n0 w _ HS6.out).mono ?_; rintro e w' ⟨rfl, rfl⟩)
            | (go_at_call 31; refine (once_used0 ⟨A, T, F⟩ l n0 w _ HS6.out).mono ?_; rintro e w' ⟨rfl, rfl⟩)
            | (go_at_call 38; refine (once_drop0 ⟨A, T, F⟩ l n0 w _ HN.out HS6.out).mono ?_; rintro e w7 ⟨rfl, hs⟩; have HS7 := Lib.hid hs; clear hs)
            | (go_at_call 34; refine (awake7_any _ (HT.out.below HG.out HS7.out.bel)).mono ?_; rintro e w8 ⟨rfl, hb⟩; have HB8 := Lib.hid (HS7.out.bel.trans (hb.mono HS7.out.bel.size)); clear hb))
          go_ret
          exact ⟨rfl, HB8.out⟩
set_option maxHeartbeats 8000000 in
theorem once_any (l : List UInt8) (z : Int) (w : World) (hT : TabOk w) (hl : l.length ≤ 9223372036854775807) (hz : -9223372036854775808 ≤ z ∧ z ≤ 9223372036854775807) :
    Calls Tryd.prog 10 #[.string ⟨l.toArray⟩, .int .i64 z] w fun e w' => e = .returned (.bool true) ∧ Below w.heap.size w w' := by
  have hg : 0 < w.heap.size := cell_lt (hT 0 (by decide))
  by_cases h1 : 255 < l.length
  · have HT := Lib.hid hT
    clear hT hg
    go_enter Tryd.func10, Tryd.ntmps10
    go_wp2_with (go_at_call 34; refine (awake7_any _ HT.out).mono ?_; rintro e w' ⟨rfl, hb⟩)
    go_ret
    exact ⟨rfl, hb⟩
  cases hv : Nm.valid l with
  | false =>
    have HT := Lib.hid hT
    have HG := Lib.hid hg
    have HV := Lib.hid (by have k := rvalid_any l w (by omega); rw [hv] at k; exact k)
    clear hT hg hv
    go_enter Tryd.func10, Tryd.ntmps10
    go_wp2_with fail
    refine HV.out.mono ?_
    rintro e w1 ⟨rfl, b1⟩
    have HB1 := Lib.hid b1
    clear b1
    go_wp2_with (go_at_call 34; refine (awake7_any _ (HT.out.below HG.out HB1.out)).mono ?_; rintro e w' ⟨rfl, hb⟩; have HB8 := Lib.hid (HB1.out.trans (hb.mono HB1.out.size)); clear hb)
    go_ret
    exact ⟨rfl, HB8.out⟩
  | true =>
    by_cases h2 : z < 1 ∨ 30 < z
    · have HT := Lib.hid hT
      have HG := Lib.hid hg
      have HV := Lib.hid (by have k := rvalid_any l w (by omega); rw [hv] at k; exact k)
      clear hT hg hv
      go_enter Tryd.func10, Tryd.ntmps10
      go_wp2_with fail
      refine HV.out.mono ?_
      rintro e w1 ⟨rfl, b1⟩
      have HB1 := Lib.hid b1
      clear b1
      by_cases h3 : z < 1
      · go_wp2_with (go_at_call 34; refine (awake7_any _ (HT.out.below HG.out HB1.out)).mono ?_; rintro e w' ⟨rfl, hb⟩; have HB8 := Lib.hid (HB1.out.trans (hb.mono HB1.out.size)); clear hb)
        go_ret
        exact ⟨rfl, HB8.out⟩
      · have h4 : 30 < z := by omega
        go_wp2_with (go_at_call 34; refine (awake7_any _ (HT.out.below HG.out HB1.out)).mono ?_; rintro e w' ⟨rfl, hb⟩; have HB8 := Lib.hid (HB1.out.trans (hb.mono HB1.out.size)); clear hb)
        go_ret
        exact ⟨rfl, HB8.out⟩
    · obtain ⟨u, rfl⟩ : ∃ u : Nat, z = (u : Int) := ⟨z.toNat, by omega⟩
      exact once_in l u w hT (by omega) hv (by omega) (by omega)
end Go.Proofs.YtbmppnfliiiobaaDoor

/- a name is there once, however often it is added, in whatever letters, and goes with its last use
   Conditions: those of the row and of its card, none beside. -/
set_option maxRecDepth 100000
namespace Go.Proofs.YtbmppnfliiiobaaDoor.internOnce
open Go.ChangeShapes Go.WideShapes Go.ChangeAt Go.RowKit

theorem contract (H : Type) (enc : TypeId × Value → H) (W : World) (base : Nat) (args : Array Value) (ds gs : List (DataW H)) (before : List MemPlace)
    (hval : ∀ (j : Nat) t v, Tryd.f10.params[j]? = some t → args[j]? = some v → Value.okWide Tryd.prog W .any base t v)
    (hW : DataW.Whole enc Tryd.prog Tryd.f10.params.toList Rows.internOnceSpec.vars false W args.toList ds gs before) (hL : laidMetH Tryd.prog laidList W) :
    Calls Tryd.prog 10 args W fun e W' => ∃ v, e = .returned v ∧ Rows.internOnceSpec.post enc Tryd.prog Tryd.f10 false true false false W args v W' := by
  have hW' := hW
  obtain ⟨p, q, hA0, hV, rfl, _, _⟩ := hW
  have hA : DataW.TrodAll enc Tryd.prog W 0 (fun _ => true) true Tryd.f10.params.toList args.toList ds p := hA0
  clear hA0
  rw [Tryd.params10] at hA hval
  obtain ⟨v0, vs0, d0, ds0, p0, q0, hargs0, rfl, rfl, h0, r0⟩ := trodAll_cons hA
  obtain ⟨v1, vs1, d1, ds1, p1, q1, hargs1, rfl, rfl, h1, r1⟩ := trodAll_cons r0
  subst hargs1
  obtain ⟨rfl, rfl, rfl⟩ := trodAll_nil r1
  obtain rfl : args = #[v0, v1] := by cases args; simp_all
  obtain ⟨rfl, rfl⟩ := trodVars_none hV
  obtain ⟨l0, rfl, hl0⟩ := arg_string (hval 0 _ _ rfl rfl) h0
  obtain ⟨z1, rfl, hz1⟩ := arg_int (hval 1 _ _ rfl rfl) h1
  have hL' := tabOk hL
  refine (once_any l0 z1 W hL' (by rw [maxLen_eq] at hl0; exact hl0) hz1).mono fun e W' ⟨he, hbl⟩ => ?_
  exact ⟨_, he, law_post hW' rfl hbl rfl rfl (fun t ht => readT7 t (by rw [Tryd.params10] at ht; exact (show ∀ t ∈ (#[9, 3] : Array TypeId).toList, t ∈ [3, 54, 9, 55, 82] by decide) t ht))⟩

theorem reads (os : Os) {H : Type} (enc : TypeId × Value → H) : ∃ places, DataW.whole enc Tryd.prog ((laidWorld os).forCall (fun _ _ => 0) ⟨#[], #[.string ⟨#[]⟩, .int .i64 0], []⟩).memory Tryd.f10.params.toList Rows.internOnceSpec.vars false (#[.string ⟨#[]⟩, .int .i64 0] : Array Value).toList 8 = some ([.lit (.string []), .lit (.int .i64 0)], [], places) :=
  ⟨[], by kernel_rfl⟩

theorem lifted (os : Os) (started : os.Started) (H : Type) (enc : TypeId × Value → H) (F : Stop.Interp) :
    ReturnsInHanded {} Tryd.checked os 10 .any ((OpenSpec.ofChange Rows.internOnceSpec).preRow enc Tryd.prog Tryd.f10 Rows.internOnceRow.domain false Rows.internOnceRow.laid) (((OpenSpec.ofChange Rows.internOnceSpec).at F).post enc Tryd.prog Tryd.f10 false true false false) := by
  obtain ⟨places, hx⟩ := reads os enc
  refine returnsInHanded_of_row (C := Tryd.checked) (s := OpenSpec.ofChange Rows.internOnceSpec) own started (by kernel_rfl) Tryd.func10
    (witness_row_atRef (enc := enc) (C := Tryd.checked) false (laidWorld os) #[.string ⟨#[]⟩, .int .i64 0] rfl (by kernel_rfl) (by kernel_rfl) (by kernel_rfl)
      (OpenSpec.preRow_of_cond 8 hx (by kernel_rfl) (fun k hk => by cases hk) (by kernel_rfl) (laid_met os _))) ?_
  intro W base args ds gs before hval hW _ _ _ hL _ _
  exact contract H enc W base args ds gs before hval hW hL

theorem said : Rows.InternOnceSaid :=
  OpenClaim.holds_of_cond 10 Tryd.f10 rfl rfl rfl rfl rfl rfl rfl ⟨rfl, rfl, rfl, rfl, rfl⟩ rfl rfl rfl rfl rfl (by kernel_rfl) Tryd.func10 (by kernel_rfl)
    (of_decide_eq_true (by kernel_rfl)) (by unfold Func.isWrapper; first | (rw [if_pos (by decide +kernel)]; kernel_rfl) | (rw [if_neg (by decide +kernel)]; exact ⟨rfl, rfl⟩))
    (fun os started H enc _ F => by rw [OpenClaim.pre_eq_preRow]; exact lifted os started H enc F)

/-- No parameter wants a stand-in; the looks are as the card has them. -/
theorem plain (f : FuncId) (fn : Func) (hf : Tryd.pinned.checked.prog.funcNamed "freshet/freshetlaw7.InternOnce" = some f) (hfn : Tryd.pinned.checked.prog.funcs[f]? = some fn) :
    false = Tryd.pinned.checked.prog.looks [] ∧ ∀ (j : Nat) t, fn.params[j]? = some t → Tryd.pinned.checked.prog.wantsStandIn t = false := by
  obtain rfl : f = 10 := Option.some.inj ((show Tryd.prog.funcNamed "freshet/freshetlaw7.InternOnce" = some 10 by kernel_rfl).symm.trans hf) |>.symm
  obtain rfl : fn = Tryd.f10 := (Option.some.inj (Tryd.func10.symm.trans hfn)).symm
  refine ⟨by kernel_rfl, fun j t ht => ?_⟩
  rw [Tryd.params10] at ht
  exact standT7 t ((show ∀ t ∈ (#[9, 3] : Array TypeId).toList, t ∈ [3, 54, 9, 55, 82] by decide) t (Array.mem_toList_iff.2 (Array.mem_of_getElem? ht)))

theorem card : Rows.InternOnceCardSaid :=
  Claim7.holds_tied_plain_at .later [] _ _ _ _ said (fun _ h => by cases h) (by kernel_rfl) (fun _ h => by cases h) internOnce_row_tie rfl ⟨rfl, rfl⟩ (by kernel_rfl) rfl plain (by kernel_rfl)
end Go.Proofs.YtbmppnfliiiobaaDoor.internOnce
