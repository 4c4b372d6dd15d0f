/- 4 texts put together: Ih, Ifo, Iwr, Edl. -/
import Derived.Laws.BitsAllLaws
import Derived.Deep.QuietTactic
import Derived.Test.YtdbaocphglijbaaDoorJB15
import Derived.Test.YtdbaocphglijbaaDoorJB16
import Derived.Test.YtdbaocphglijbaaDoorJB17
/- Package intern: the hash of a name, its chain. -/
set_option maxRecDepth 100000
namespace Go.Proofs.YtdbaocphglijbaaDoor
open Go.RowKit Go.Shelf
attribute [local go_sem] Oper.semAt_some
/-- FNV-1a, step by step, as a number of 32 bits. -/
def hstep (h : Nat) (c : UInt8) : Nat := (((h ^^^ c.toNat) * 16777619) % 4294967296)
def hashN (l : List UInt8) : Nat := l.foldl hstep 2166136261
theorem hashN_snoc (l : List UInt8) (c : UInt8) : hashN (l ++ [c]) = hstep (hashN l) c := by unfold hashN; rw [List.foldl_append, List.foldl_cons, List.foldl_nil]
theorem fnv_lt : (2166136261 : Nat) < 4294967296 := by omega
theorem fnv_nil (l : List UInt8) : 2166136261 = hashN (l.take 0) := by unfold hashN; rw [List.take_zero, List.foldl_nil]
theorem hstep_int (x : Nat) (c : UInt8) : ((x ^^^ c.toNat : Nat) : Int) * 16777619 % 4294967296 = (hstep x c : Int) := by unfold hstep; rw [Int.natCast_emod, Int.natCast_mul]; rfl
theorem hstep_lt (h : Nat) (c : UInt8) : hstep h c < 4294967296 := Nat.mod_lt _ (by omega)
theorem foldl_hlt : ∀ (l : List UInt8) (h : Nat), h < 4294967296 → l.foldl hstep h < 4294967296
  | [], _, h => h
  | c :: l, h, _ => foldl_hlt l _ (hstep_lt h c)
theorem hashN_lt (l : List UInt8) : hashN l < 4294967296 := by unfold hashN; exact foldl_hlt l _ (by omega)
theorem take_snoc (l : List UInt8) (k : Nat) (h : k < l.length) : l.take (k + 1) = l.take k ++ [l[k]] := by rw [List.take_succ_eq_append_getElem h]
theorem xor_u32 (a b : Nat) (ha : a < 4294967296) (hb : b < 4294967296) : bits .xor .u32 (a : Int) (b : Int) = ((a ^^^ b : Nat) : Int) := by
  have hx : a ^^^ b < 2 ^ 32 := Nat.xor_lt_two_pow (by omega) (by omega)
  have h1 : (BitVec.ofInt 32 (a : Int)).toNat = a := by
    rw [BitVec.ofInt_natCast, BitVec.toNat_ofNat]; exact Nat.mod_eq_of_lt (by omega)
  have h2 : (BitVec.ofInt 32 (b : Int)).toNat = b := by
    rw [BitVec.ofInt_natCast, BitVec.toNat_ofNat]; exact Nat.mod_eq_of_lt (by omega)
  show IntKind.u32.wrap ((BitVec.ofInt 32 (a : Int) ^^^ BitVec.ofInt 32 (b : Int)).toNat : Int) = _
  rw [BitVec.toNat_xor, h1, h2]
  show (((a ^^^ b : Nat) : Int) % (2 ^ 32 : Int)) = _
  omega
set_option maxHeartbeats 4000000 in
theorem hash_any (l : List UInt8) (w : World) (hl : l.length ≤ 1000000) : Calls Tryd.prog 106 #[.string ⟨l.toArray⟩] w fun e w' => e = .returned (.int .u32 (hashN l : Int)) ∧ w = w' := by
  go_enter Tryd.func106, Tryd.ntmps106
  go_wp2
  go_loop [3, 7] (fun h i => ∃ k x : Nat, k ≤ l.length ∧ i = .int .i64 (k : Int) ∧ h = .int .u32 (x : Int) ∧ x < 4294967296 ∧ Hid (x = hashN (l.take k))) (fun _ i => l.length + 1 - (intOf i).toNat)
  case atStart => exact ⟨0, 2166136261, Nat.zero_le _, rfl, rfl, fnv_lt, Lib.hid (fnv_nil l)⟩
  case round =>
    obtain ⟨k, x, hk, rfl, rfl, hx, HX⟩ := hrel
    by_cases hlt : k < l.length
    · have hc : ((⟨l.toArray⟩ : ByteArray)[k]'hlt) = l[k] := rfl
      have hcl := l[k].toNat_lt
      have hxor := xor_u32 x l[k].toNat hx (by omega)
      have HS := Lib.hid (show hstep x l[k] = hashN (l.take (k + 1)) by rw [take_snoc l k hlt, hashN_snoc, HX.out])
      go_wp2
      go_round
      case rel => exact ⟨k + 1, hstep x l[k], by omega, by go_num, congrArg (Value.int .u32) (hstep_int x l[k]), hstep_lt _ _, HS⟩
      case measure => simp [intOf]; omega
    · go_wp2
      go_ret
      exact ⟨ret_int (by rw [HX.out, List.take_of_length_le (by omega)]), rfl⟩
theorem wraps_i64 (n : Int) (h0 : 0 ≤ n) (h1 : n < 2 ^ 62) : IntKind.i64.wrap n = n := by rw [IntKind.wrap_i64]; omega
theorem or8 (x y : Int) (h0 : 0 ≤ x) (h1 : x % 256 = 0) (h2 : x < 1099511627776) (h3 : 0 ≤ y) (h4 : y < 256) : bits .or .i64 x y = x + y :=
  bits_join .i64 62 (by decide) wraps_i64 8 x y h0 h1 (by omega) h3 h4 (by omega)
theorem or16 (x y : Int) (h0 : 0 ≤ x) (h1 : x % 65536 = 0) (h2 : x < 1099511627776) (h3 : 0 ≤ y) (h4 : y < 65536) : bits .or .i64 x y = x + y :=
  bits_join .i64 62 (by decide) wraps_i64 16 x y h0 h1 (by omega) h3 h4 (by omega)
theorem or24 (x y : Int) (h0 : 0 ≤ x) (h1 : x % 16777216 = 0) (h2 : x < 1099511627776) (h3 : 0 ≤ y) (h4 : y < 16777216) : bits .or .i64 x y = x + y :=
  bits_join .i64 62 (by decide) wraps_i64 24 x y h0 h1 (by omega) h3 h4 (by omega)

def num4N (a b c d : UInt8) : Nat := a.toNat * 16777216 + b.toNat * 65536 + c.toNat * 256 + d.toNat
theorem num4_eq (a b c d : UInt8) : bits .or .i64 (bits .or .i64 (bits .or .i64 (wrap64 (wrap64 (a.toNat : Int) * 16777216)) (wrap64 (wrap64 (b.toNat : Int) * 65536))) (wrap64 (wrap64 (c.toNat : Int) * 256))) (wrap64 (d.toNat : Int)) = (num4N a b c d : Int) := by
  have ha := a.toNat_lt
  have hb := b.toNat_lt
  have hc := c.toNat_lt
  have hd := d.toNat_lt
  have e : ∀ z : Int, 0 ≤ z → z < 1099511627776 → wrap64 z = z := fun z h0 h1 => by unfold wrap64; omega
  rw [e (a.toNat : Int) (by omega) (by omega), e (b.toNat : Int) (by omega) (by omega), e (c.toNat : Int) (by omega) (by omega), e (d.toNat : Int) (by omega) (by omega)]
  rw [e _ (by omega) (by omega), e _ (by omega) (by omega), e _ (by omega) (by omega)]
  rw [or24 ((a.toNat : Int) * 16777216) ((b.toNat : Int) * 65536) (by omega) (by omega) (by omega) (by omega) (by omega), or16 ((a.toNat : Int) * 16777216 + (b.toNat : Int) * 65536) ((c.toNat : Int) * 256) (by omega) (by omega) (by omega) (by omega) (by omega), or8 _ _ (by omega) (by omega) (by omega) (by omega) (by omega)]
  unfold num4N
  omega


structure TB where
  A : Nat
  T : Nat
  F : Nat
/-- A table's box. -/
def tbBox (t : TB) (n c : Nat) : List Value := [.pointer (some ⟨t.A, 0, none⟩), .slice (some ⟨t.F, 0, none⟩) n n, encI c]
set_option maxHeartbeats 4000000 in
theorem chainOf_any (t : TB) (n c : Nat) (l : List UInt8) (w : World) (hb : Blk w t.T (tbBox t n c) 109) (hl : l.length ≤ 1000000) (hn : 1 ≤ n) (hn2 : n ≤ 1000000) :
    Calls Tryd.prog 99 #[.pointer (some ⟨t.T, 0, none⟩), .string ⟨l.toArray⟩] w fun e w' => e = .returned (.int .i64 ((hashN l % n : Nat) : Int)) ∧ Drew w w' := by
  obtain ⟨A, T, F⟩ := t
  have c1 := hb.cell (i := 1) rfl
  have hh := hashN_lt l
  have HH := Lib.hid (fun W => hash_any l W hl)
  obtain ⟨x, hx⟩ : ∃ x, hashN l = x := ⟨_, rfl⟩
  rw [hx] at hh HH ⊢
  clear hx hh
  have hw : IntKind.u32.wrap (n : Int) = (n : Int) := IntWalk.u32_in _ (by omega)
  have hne : ((n : Int) == 0) = false := by rw [beq_eq_false_iff_ne]; omega
  have hlt : x % n < n := Nat.mod_lt _ (by omega)
  go_enter Tryd.func99, Tryd.ntmps99
  go_wp2
  go_quiet ((go_at_call 106; exact Calls.quiet_of_same ((HH.out _).mono fun _ _ h => ⟨h.1, h.2.symm⟩)))
  go_wp2
  go_ret
  exact ⟨ret_int rfl, ⟨nq, rfl⟩⟩
end Go.Proofs.YtdbaocphglijbaaDoor

/- Package intern: numbers of four bytes. -/
set_option maxRecDepth 100000
namespace Go.Proofs.YtdbaocphglijbaaDoor
open Go.RowKit Go.Shelf
attribute [local go_sem] Oper.semAt_some
def dec4 : List UInt8 → Nat
  | a :: b :: c :: d :: _ => num4N a b c d
  | _ => 0
def b4 (n : Nat) : List UInt8 := [UInt8.ofNat (n / 16777216), UInt8.ofNat (n / 65536), UInt8.ofNat (n / 256), UInt8.ofNat n]
theorem b4_len (n : Nat) : (b4 n).length = 4 := rfl
theorem dec4_b4 (n : Nat) (r : List UInt8) (h : n < 4294967296) : dec4 (b4 n ++ r) = n := by
  show num4N (UInt8.ofNat (n / 16777216)) (UInt8.ofNat (n / 65536)) (UInt8.ofNat (n / 256)) (UInt8.ofNat n) = n
  unfold num4N
  simp only [UInt8.toNat_ofNat']
  omega
theorem rdB_four {v : Value} {a b c d : UInt8} {r : List UInt8} {W : World} (h : RdB v (a :: b :: c :: d :: r) W) : ∃ (B off n cap : Nat), v = .slice (some ⟨B, off, none⟩) (n + 4) cap ∧ W.cell? ⟨B, off, none⟩ = some (.int .u8 (a.toNat : Int)) ∧ W.cell? ⟨B, off + 1, none⟩ = some (.int .u8 (b.toNat : Int)) ∧ W.cell? ⟨B, off + 2, none⟩ = some (.int .u8 (c.toNat : Int)) ∧ W.cell? ⟨B, off + 3, none⟩ = some (.int .u8 (d.toNat : Int)) := by
  obtain ⟨ao, cap, rfl, hc⟩ := h.form
  obtain ⟨B, off, rfl, h0⟩ := hc 0 (by simp)
  obtain ⟨_, _, e1, h1⟩ := hc 1 (by simp)
  obtain ⟨_, _, e2, h2⟩ := hc 2 (by simp)
  obtain ⟨_, _, e3, h3⟩ := hc 3 (by simp)
  cases e1; cases e2; cases e3
  exact ⟨B, off, r.length, cap, rfl, h0, h1, h2, h3⟩
theorem num4_eq' (a b c d : UInt8) : bits .or .i64 (bits .or .i64 (bits .or .i64 ((a.toNat : Int) * 16777216) ((b.toNat : Int) * 65536)) ((c.toNat : Int) * 256)) (d.toNat : Int) = (num4N a b c d : Int) := by
  have ha := a.toNat_lt
  have hb := b.toNat_lt
  have hc := c.toNat_lt
  have hd := d.toNat_lt
  rw [or24 ((a.toNat : Int) * 16777216) ((b.toNat : Int) * 65536) (by omega) (by omega) (by omega) (by omega) (by omega), or16 ((a.toNat : Int) * 16777216 + (b.toNat : Int) * 65536) ((c.toNat : Int) * 256) (by omega) (by omega) (by omega) (by omega) (by omega), or8 _ _ (by omega) (by omega) (by omega) (by omega) (by omega)]
  unfold num4N
  omega
set_option maxHeartbeats 4000000 in
theorem four_any (v : Value) (l : List UInt8) (w : World) (h : RdB v l w) (hl : 4 ≤ l.length) : Calls Tryd.prog 107 #[v] w fun e w' => e = .returned (.int .i64 (dec4 l : Int)) ∧ Drew w w' := by
  obtain ⟨a, b, c, d, r, rfl⟩ : ∃ a b c d r, l = a :: b :: c :: d :: r := by
    match l, hl with
    | a :: b :: c :: d :: r, _ => exact ⟨a, b, c, d, r, rfl⟩
  obtain ⟨B, off, n, cap, rfl, h0, h1, h2, h3⟩ := rdB_four h
  clear h hl
  have ha := a.toNat_lt
  have hb := b.toNat_lt
  have hc := c.toNat_lt
  have hd := d.toNat_lt
  have l0 : 0 < n + 4 := by omega
  have l1 : 1 < n + 4 := by omega
  have l2 : 2 < n + 4 := by omega
  have l3 : 3 < n + 4 := by omega
  have m0 : (0 : Int) < (n : Int) + 4 := by omega
  have m1 : (1 : Int) < (n : Int) + 4 := by omega
  have m2 : (2 : Int) < (n : Int) + 4 := by omega
  have m3 : (3 : Int) < (n : Int) + 4 := by omega
  go_enter Tryd.func107, Tryd.ntmps107
  go_wp2
  go_quiet (fail)
  go_wp2
  go_ret
  exact ⟨ret_int (num4_eq' a b c d), ⟨nq, rfl⟩⟩
theorem infoByte' : (Tryd.prog.info? 5).map (fun i => (i.zero, i.size, i.bytes)) = some (some (.int .u8 0), 1, 1) := infoU8
/-- An append at its operation, of elements that were just built. -/
theorem wpList_apdB4 {w : World} {ops : Array Oper} {rest : List Oper} {o : Oper} {a : Act} {Q : Exit → Act → World → Prop} (hg : o.guard = none) (s z : Operand)
    (hop : o.op = Op.call { callee := Callee.builtin Builtin.append, args := #[s, z], argTypes := #[34, 34] }) {base : Nat} {v : Value} {l : List UInt8} (hs : a.eval s = v) (hown : OwnE encB 5 base v l w) (hl : l.length ≤ 900000) (hb : base ≤ w.heap.size) (ad : Addr) (m c : Nat) (news : List UInt8) (hm : news.length = m) (hm2 : m ≤ 10000) (hz : a.eval z = .slice (some ad) m c)
    (hc : ∀ j u, (news.map encB)[j]? = some u → w.cell? (ad.add j) = some u)
    (hK : ∀ v' w', OwnE encB 5 base v' (l ++ news) w' → Apd base v (l ≠ []) w w' → wpList Tryd.prog ops Q rest (a.put o.dst v') w') :
    wpList Tryd.prog ops Q (o :: rest) a w := by
  refine wpList_plain hg fun K hK' => ?_
  obtain ⟨v', w', hrun, r1, r2, _⟩ := run_apd (P := Tryd.prog) encB encB_one w base 34 o.type 5 (.int .u8 0) 1 Tryd.underlying34 infoByte' rfl v l hown ad m c news hm hc (by omega) (by omega) hb
  unfold Oper.wp
  simp [execOp, hop, resolve, invoke, builtin, hs, hz, hrun, Result.andThen]
  exact hK' _ _ (hK v' w' r1 r2)
theorem encB_mod (n : Nat) : encB (UInt8.ofNat n) = .int .u8 ((n : Int) % 256) := by
  unfold encB
  rw [UInt8.toNat_ofNat', Int.natCast_emod]
  rfl
theorem encB_div (n k : Nat) : encB (UInt8.ofNat (n / k)) = .int .u8 ((n : Int) / (k : Int) % 256) := by rw [encB_mod, Int.natCast_ediv]
theorem b4_enc (n : Nat) : (b4 n).map encB = [.int .u8 ((n : Int) / 16777216 % 256), .int .u8 ((n : Int) / 65536 % 256), .int .u8 ((n : Int) / 256 % 256), .int .u8 ((n : Int) % 256)] := by
  have e1 := encB_div n 16777216
  have e2 := encB_div n 65536
  have e3 := encB_div n 256
  have e4 := encB_mod n
  show [encB (UInt8.ofNat (n / 16777216)), encB (UInt8.ofNat (n / 65536)), encB (UInt8.ofNat (n / 256)), encB (UInt8.ofNat n)] = _
  rw [e1, e2, e3, e4]
  rfl
theorem own_shape' {base : Nat} {v : Value} {l : List UInt8} {w : World} (h : OwnE encB 5 base v l w) : ∃ ao n c, v = .slice ao n c := by
  rcases ownE_form h with ⟨rfl, _⟩ | ⟨g, cap, rfl⟩
  · exact ⟨none, 0, 0, rfl⟩
  · exact ⟨_, _, _, rfl⟩
def ApdRet (base : Nat) (v : Value) (l : List UInt8) (w : World) (e : Ending) (w' : World) : Prop := ∃ v', e = .returned v' ∧ OwnE encB 5 base v' l w' ∧ Below base w w' ∧ ∀ (k : Nat) (o : Obj), some k ≠ v.ownBlock → w.heap[k]? = some o → w'.heap[k]? = some o
set_option maxHeartbeats 4000000 in
theorem appendFour_any (base : Nat) (v : Value) (l : List UInt8) (n : Nat) (w : World) (hown : OwnE encB 5 base v l w) (hl : l.length ≤ 900000) (hb : base ≤ w.heap.size) (_hn : n < 4611686018427387904) :
    Calls Tryd.prog 101 #[v, .int .i64 (n : Int)] w (ApdRet base v (l ++ b4 n) w) := by
  have HO := Lib.hid (ownE_alloc hown (.cells #[.int .u8 ((n : Int) / 16777216 % 256), .int .u8 ((n : Int) / 65536 % 256), .int .u8 ((n : Int) / 256 % 256), .int .u8 ((n : Int) % 256)] 5))
  have HC := Lib.hid (fun j u (hj : ((b4 n).map encB)[j]? = some u) => cells_new w ((b4 n).map encB) 5 j u hj)
  have HBE := Lib.hid (b4_enc n)
  rw [HBE.out] at HC
  have hb2 : base ≤ (w.alloc (.cells #[.int .u8 ((n : Int) / 16777216 % 256), .int .u8 ((n : Int) / 65536 % 256), .int .u8 ((n : Int) / 256 % 256), .int .u8 ((n : Int) % 256)] 5)).heap.size := by rw [World.size_alloc]; exact Nat.le_succ_of_le hb
  have HB2 := Lib.hid hb2
  clear hown hb2
  have hsh : ∃ ao m c, v = .slice ao m c := by
    rcases ownE_form HO.out with ⟨rfl, _⟩ | ⟨g, cap, rfl⟩
    · exact ⟨none, 0, 0, rfl⟩
    · exact ⟨_, _, _, rfl⟩
  obtain ⟨ao, m, c, rfl⟩ := hsh
  go_enter Tryd.func101, Tryd.ntmps101
  go_wp2_with (at_builtin; refine wpList_apdB4 rfl _ _ rfl rfl HO.out hl HB2.out _ 4 4 (b4 n) rfl (by omega) rfl (by rw [HBE.out]; exact HC.out) ?_; intro v1 w1 h1 a1; obtain ⟨ao1, n1, c1, hv1⟩ := own_shape' h1; subst hv1; have H1 := Lib.hid h1; have A1 := Lib.hid a1; clear h1 a1)
  go_ret
  refine ⟨_, rfl, H1.out, ((Below.refl _ w).alloc hb _).trans A1.out.below, fun k o hk ho => A1.out.other k o hk ((Below.heap_alloc w _ k (Array.getElem?_eq_some_iff.1 ho).1).trans ho)⟩
end Go.Proofs.YtdbaocphglijbaaDoor

/- Package intern: a block is written. -/
set_option maxRecDepth 100000
namespace Go.Proofs.YtdbaocphglijbaaDoor
open Go.RowKit Go.Shelf
attribute [local go_sem] Oper.semAt_some
theorem wpList_apdS {w : World} {ops : Array Oper} {rest : List Oper} {o : Oper} {a : Act} {Q : Exit → Act → World → Prop} (hg : o.guard = none) (s z : Operand)
    (hop : o.op = Op.call { callee := Callee.builtin Builtin.append, args := #[s, z], argTypes := #[34, 9] }) {base : Nat} {v : Value} {l : List UInt8} (hs : a.eval s = v) (hown : OwnE encB 5 base v l w) (hb : base ≤ w.heap.size) (news : List UInt8) (hz : a.eval z = .string ⟨news.toArray⟩) (b1 : l.length + news.length ≤ 1000000)
    (hK : ∀ v' w', OwnE encB 5 base v' (l ++ news) w' → Below base w w' → wpList Tryd.prog ops Q rest (a.put o.dst v') w') :
    wpList Tryd.prog ops Q (o :: rest) a w := by
  obtain ⟨i, hi, hz0, hz1, hz2⟩ := info_parts infoByte'
  refine wpList_plain hg fun K hK' => ?_
  have hsz : (⟨news.toArray⟩ : ByteArray).size = news.length := by show news.toArray.size = _; simp
  obtain ⟨v', w', hrun, r1, r2, r3⟩ := Lib.run_append_own_string (P := Tryd.prog) w base 34 9 o.type 5 i Tryd.underlying34 Tryd.underlying9 hi hz0 hz1 hz2 v l.length (l.map encB) hown ⟨news.toArray⟩ (by rw [hsz]; exact Nat.le_trans b1 (by unfold maxLen; decide)) (by rw [hsz]; omega) hb
  rw [hsz, strCells_enc] at r1
  unfold Oper.wp
  simp [execOp, hop, resolve, invoke, builtin, hs, hz, hrun, Result.andThen]
  exact hK' _ _ (hK v' w' (by unfold OwnE; rw [List.map_append, List.length_append]; exact r1) ((Below.refl base w).grown r2 hb (fun k e => (World.ownsRow.lt hown k e).1)))
theorem own_ne {base : Nat} {v : Value} {l : List UInt8} {w : World} (h : OwnE encB 5 base v l w) {k : Nat} {c : List Value} {t : TypeId} (hb : Blk w k c t) (ht : t ≠ 5) : some k ≠ v.ownBlock := fun e => by
  rcases h.2 with ⟨rfl, _⟩ | ⟨g, cap, cur, rfl, _, h4, _⟩
  · cases e
  · have e1 : k = g := Option.some.inj e
    subst e1
    have := (show w.heap[k]? = _ from hb).symm.trans h4
    injection this with this
    injection this with _ this
    exact ht this
theorem ApdRet.blk {base : Nat} {v : Value} {l l' : List UInt8} {w w' : World} {e : Ending} (h : ApdRet base v l' w e w') (ho : OwnE encB 5 base v l w) {k : Nat} {c : List Value} {t : TypeId} (hb : Blk w k c t) (ht : t ≠ 5) : Blk w' k c t := by
  obtain ⟨v', _, _, _, h4⟩ := h
  exact h4 k _ (own_ne ho hb ht) hb
theorem put_all' (d l : List UInt8) (h : l.length = d.length) : Ar.put d 0 l = l := by
  unfold Ar.put
  rw [Nat.zero_add, h, List.drop_length]
  simp
def blkE (uses next : Nat) (name : List UInt8) : List UInt8 := b4 uses ++ b4 next ++ name
theorem blkE_len (uses next : Nat) (name : List UInt8) : (blkE uses next name).length = 8 + name.length := by simp [blkE, b4_len]; omega
set_option maxHeartbeats 8000000 in
theorem write_any (x : Nat → Prop) (t : TB) (B nn cnt : Nat) (L1 L2 : List Bl) (id : Nat) (d : List UInt8) (n0 uses next : Nat) (name : List UInt8) (z : Int) (w : World) (hz : z = (id : Int)) (h : HX x t.A B (L1 ++ (id, d) :: L2) n0 w) (hb : Blk w t.T (tbBox t nn cnt) 109) (hd : d.length = 8 + name.length) (hnl : name.length ≤ 4000) (hu : uses < 4611686018427387904) (hx : next < 4611686018427387904) :
    Calls Tryd.prog 75 #[.pointer (some ⟨t.T, 0, none⟩), .int .i64 z, .agg #[.int .i64 (uses : Int), .int .i64 (next : Int), .string ⟨name.toArray⟩]] w fun e w' => e = .returned (.tuple #[]) ∧ LX x t.A B (L1 ++ (id, blkE uses next name) :: L2) n0 w w' := by
  subst hz
  obtain ⟨A, T, F⟩ := t
  have hT := hb.lt
  have HB := Lib.hid hb
  have H := Lib.hid h
  have HD := Lib.hid hd
  clear h hb hd
  have hmk : ∃ cur : Array Value, (∀ W : World, (Instr.makeSlice 34 (.int .i64 0) (.int .i64 (8 + (name.length : Int)))).run Tryd.prog W = .ok (.slice (some ⟨W.heap.size, 0, none⟩) 0 (8 + name.length)) (W.alloc (.cells cur 5))) ∧ cur.size = (8 + name.length) * 1 := by
    obtain ⟨cur, h1, h2⟩ := run_make0_all (P := Tryd.prog) (z := .int .u8 0) Tryd.underlying34 infoByte' (8 + name.length) (by omega) (by omega) rfl
    refine ⟨cur, fun W => ?_, h2⟩
    have := h1 W
    rw [show ((8 + name.length : Nat) : Int) = 8 + (name.length : Int) by omega] at this
    exact this
  obtain ⟨cur, hmk, hcs⟩ := hmk
  have y0 := Blk.new w [.int .i64 (uses : Int), .int .i64 (next : Int), .string ⟨name.toArray⟩] 111
  have z2 := y0.cell (i := 2) rfl
  have b1 : Below w.heap.size w (w.alloc (.cells #[.int .i64 (uses : Int), .int .i64 (next : Int), .string ⟨name.toArray⟩] 111)) := (Below.refl _ w).alloc (Nat.le_refl _) _
  have s1 : (w.alloc (.cells #[.int .i64 (uses : Int), .int .i64 (next : Int), .string ⟨name.toArray⟩] 111)).heap.size = w.heap.size + 1 := World.size_alloc _ _
  have o2 := World.ownsRow_made (base := w.heap.size) (e := 5) (size := 1) (w.alloc (.cells #[.int .i64 (uses : Int), .int .i64 (next : Int), .string ⟨name.toArray⟩] 111)) cur (8 + name.length) (by rw [s1]; omega) (by unfold maxLen; omega) hcs
  rw [s1] at o2
  have y2 := y0.alloc (.cells cur 5)
  have b2 := b1.alloc (by rw [s1]; omega) (.cells cur 5)
  have HO2 := Lib.hid o2
  have HY2 := Lib.hid y2
  have HB2 := Lib.hid b2
  have hcs2 := Lib.hid hcs
  clear hcs o2 y2 b2 b1 s1
  go_enter Tryd.func75, Tryd.ntmps75
  go_upto_region 2 with (fail)
  generalize hW2 : World.alloc _ _ = W2
  replace HY2 : Hid (Blk W2 w.heap.size [.int .i64 (uses : Int), .int .i64 (next : Int), .string ⟨name.toArray⟩] 111) := by rw [← hW2]; exact HY2
  replace HB2 : Hid (Below w.heap.size w W2) := by rw [← hW2]; exact HB2
  have HO3 : Hid (OwnE encB 5 w.heap.size (.slice (some ⟨w.heap.size + 1, 0, none⟩) 0 (8 + name.length)) [] W2) := by rw [← hW2]; exact HO2
  clear hW2 HO2 hmk
  have y0 := HY2.out.cell (i := 0) rfl
  go_wp2_with fail
  refine (appendFour_any w.heap.size _ [] uses _ HO3.out (by simp) HB2.out.size hu).mono ?_
  rintro e w3 hr3
  have y3 := hr3.blk HO3.out HY2.out (by decide)
  obtain ⟨v3, rfl, o3, b3, _⟩ := hr3
  obtain ⟨ao3, n3, c3, hv3⟩ := own_shape' o3
  subst hv3
  have z1 := y3.cell (i := 1) rfl
  have HY3 := Lib.hid y3
  have HO4 := Lib.hid o3
  have HB3 := Lib.hid (HB2.out.trans b3)
  clear y3 o3 b3
  go_wp2_with fail
  refine (appendFour_any w.heap.size _ _ next _ HO4.out (by simp [b4_len]) HB3.out.size hx).mono ?_
  rintro e w4 hr4
  have y4 := hr4.blk HO4.out HY3.out (by decide)
  obtain ⟨v4, rfl, o4, b4', _⟩ := hr4
  obtain ⟨ao4, n4, c4, hv4⟩ := own_shape' o4
  subst hv4
  have z2 := y4.cell (i := 2) rfl
  have HO5 := Lib.hid o4
  have HB4 := Lib.hid (HB3.out.trans b4')
  clear y4 o4 b4'
  go_upto_region 5 with (at_builtin; refine wpList_apdS rfl _ _ rfl rfl HO5.out HB4.out.size name rfl (by simp [b4_len]; omega) ?_; intro v5 w5 o5 b5; obtain ⟨ao5, n5, c5, hv5⟩ := own_shape' o5; subst hv5; have HO6 := Lib.hid o5; have HB5 := Lib.hid (HB4.out.trans b5); have cT := (HB.out.kept (HB5.out.block _ hT)).cell (i := 0) rfl; clear o5 b5)
  go_wp2_with fail
  refine (write_ok x A B L1 L2 (id, d) n0 _ 0 0 _ (blkE uses next name) _ rfl rfl (H.out.after HB5.out) (RdB.own HO6.out) (by rw [blkE_len, HD.out]; omega)).mono ?_
  rintro e w6 ⟨rfl, h6⟩
  have H6 := Lib.hid h6
  clear h6
  go_wp2
  go_end0
  refine ⟨rfl, ?_⟩
  have h6 := H6.out
  rw [put_all' d _ (by rw [blkE_len, HD.out])] at h6
  exact (H.out.lx HB5.out).to h6
end Go.Proofs.YtdbaocphglijbaaDoor

/- ArenaEdges: what its calls do. -/
set_option maxRecDepth 100000
namespace Go.Proofs.YtdbaocphglijbaaDoor
open Go.RowKit Go.Shelf
attribute [local go_sem] Oper.semAt_some
theorem run_rd_any {v : Value} {l : List UInt8} {W : World} (h : RdB v l W) : (convert 34 9 v).run Tryd.prog W = .ok (.string ⟨l.toArray⟩) W := by
  cases l with
  | nil =>
    obtain ⟨ao, cap, rfl, _⟩ := h.form
    rw [run_convert_bytes_string W _ _ _ _ _ cap Tryd.underlying34 Tryd.underlying5 Tryd.underlying9]
    cases ao <;> simp [Conv.bytesToString, loadCells]
    all_goals rfl
  | cons c l => exact run_rd_str h (by simp)
/-- A block of the law's own beside its arena. -/
structure Mn (A B I : Nat) (cs : List Value) (T : TypeId) (L : List Bl) (w0 w : World) : Prop where
  hx : HX (fun k => k = I) A B L w0.heap.size w
  blk : Blk w I cs T
  bel : Below w0.heap.size w0 w
theorem Mn.to {A B I : Nat} {cs : List Value} {T : TypeId} {L L' : List Bl} {w0 w w' : World} (h : Mn A B I cs T L w0 w) (k : LX (fun k => k = I) A B L' w0.heap.size w w') : Mn A B I cs T L' w0 w' :=
  ⟨k.at_, k.blk rfl h.blk, h.bel.trans k.below⟩
theorem Mn.put {A B I : Nat} {cs : List Value} {T : TypeId} {L : List Bl} {w0 w : World} (h : Mn A B I cs T L w0 w) (i : Nat) (v : Value) : Mn A B I (cs.set i v) T L w0 (w.setCell ⟨I, i, none⟩ v) :=
  ⟨h.hx.put rfl i _, h.blk.set i _, h.bel.setCell (h.hx.xlow I rfl) _⟩
theorem Mn.after {A B I : Nat} {cs : List Value} {T : TypeId} {L : List Bl} {w0 w w' : World} (h : Mn A B I cs T L w0 w) (hb : Below w.heap.size w w') : Mn A B I cs T L w0 w' := h.to (h.hx.lx hb)
theorem Mn.start {A B : Nat} {L : List Bl} {w0 w : World} (h : HX (fun _ => False) A B L w0.heap.size w) (hb : Below w0.heap.size w0 w) (cs : List Value) (T : TypeId) : Mn A B w.heap.size cs T L w0 (w.alloc (.cells cs.toArray T)) :=
  ⟨(h.mine _).less (fun _ e => .inr e), Blk.new w _ _, hb.trans ((Below.refl _ w).alloc h.low _)⟩
theorem rdB_block {W : World} {I : Nat} {l : List UInt8} {n c : Nat} (h : Blk W I (l.map encB) 5) (hn : n = l.length) : RdB (.slice (some ⟨I, 0, none⟩) n c) l W := by
  subst hn
  exact ⟨some ⟨I, 0, none⟩, c, rfl, fun j hj => ⟨I, 0, rfl, by rw [Nat.zero_add]; exact h.cell (encB_at hj)⟩⟩
theorem rdB_nil (W : World) (c : Nat) : RdB (.slice none 0 c) [] W := ⟨none, c, rfl, fun j hj => by cases hj⟩
def fitsB (n : Nat) (a : Int) (size : Nat) : Bool := decide (0 ≤ a ∧ a ≤ n ∧ (size : Int) ≤ n - a)
theorem fitsB_iff {n : Nat} {a : Int} {size : Nat} : fitsB n a size = true ↔ Within n a size := by
  unfold fitsB Within
  rw [decide_eq_true_eq]
  constructor
  · rintro ⟨h1, h2, h3⟩; exact ⟨h1, by omega, h2, h3⟩
  · rintro ⟨h1, h2, h3, h4⟩; exact ⟨h1, h3, h4⟩
def xsB (size : Nat) : List UInt8 := List.replicate size 120
def edD (n : Nat) (a : Int) (size : Nat) : Bool → List UInt8
  | true => Ar.put (Ar.zeros n) a.toNat (xsB size)
  | false => Ar.zeros n
def edL (n : Nat) (a : Int) (size : Nat) (fb : Bool) : List Bl := [(1, edD n a size fb), (2, Ar.zeros 20)]
def edC (size : Nat) : Bool → List UInt8
  | true => xsB size
  | false => []
def jOf : Bool → Int
  | true => 0
  | false => 1
theorem zeros_len (n : Nat) : (Ar.zeros n).length = n := by simp [Ar.zeros]
theorem xs_len (n : Nat) : (xsB n).length = n := by simp [xsB]
theorem edD_len {n : Nat} {a : Int} {size : Nat} (fb : Bool) (h : fb = true → Within n a size) : (edD n a size fb).length = n := by
  cases fb with
  | false => exact zeros_len n
  | true =>
    obtain ⟨h1, h2, h3, h4⟩ := h rfl
    unfold edD
    rw [Ar.put_len _ _ _ (by rw [xs_len, zeros_len]; omega), zeros_len]
theorem ed_write (A I n size : Nat) (a : Int) (w0 w : World) (fb : Bool) (jv : Int) (hj : jv = jOf fb) (hfb : fb = fitsB n a size) (h : Mn A 2048 I ((xsB size).map encB) 5 [(1, Ar.zeros n), (2, Ar.zeros 20)] w0 w) (hs : size ≤ 1000) (hI1 : -9223372036854775808 ≤ a) (hI2 : a ≤ 9223372036854775807) :
    Calls Tryd.prog 23 #[.pointer (some ⟨A, 0, none⟩), .int .i64 1, .int .i64 a, .slice (some ⟨I, 0, none⟩) size size] w fun e w' => e = .returned (.int .i64 jv) ∧ Mn A 2048 I ((xsB size).map encB) 5 (edL n a size fb) w0 w' := by
  subst hj
  have hv := rdB_block (c := size) h.blk (xs_len size).symm
  cases fb with
  | true =>
    obtain ⟨h1, h2, h3, h4⟩ := fitsB_iff.1 hfb.symm
    obtain ⟨k, rfl⟩ : ∃ k : Nat, a = (k : Int) := ⟨a.toNat, by omega⟩
    refine (write_ok _ A 2048 [] [(2, Ar.zeros 20)] (1, Ar.zeros n) _ 1 (k : Int) k _ (xsB size) w rfl rfl h.hx hv (by rw [xs_len, zeros_len]; omega)).mono fun e w' ⟨he, hL⟩ => ⟨he, h.to ?_⟩
    unfold edL edD
    rw [Int.toNat_natCast]
    exact hL
  | false =>
    have hno : ¬ Within n a size := fun hw => by rw [fitsB_iff.2 hw] at hfb; cases hfb
    exact (write_no _ A 2048 _ (1, Ar.zeros n) _ 1 a _ (xsB size) w rfl (by simp) h.hx hv (by rw [xs_len]; omega) (by rw [xs_len, zeros_len]; exact hno) hI1 hI2).mono fun e w' ⟨he, hL⟩ => ⟨he, h.to hL⟩
theorem put_back (d l : List UInt8) (k : Nat) (h : k + l.length ≤ d.length) : ((Ar.put d k l).drop k).take l.length = l := by
  unfold Ar.put
  have h1 : (d.take k).length = k := by simp; omega
  rw [List.append_assoc, List.drop_left' h1, List.take_left' rfl]
theorem ed_read1 (A I n size : Nat) (a : Int) (w0 w : World) (fb : Bool) (jv : Int) (ln : Nat) (hj : jv = jOf fb) (hln : ln = (edC size fb).length) (hfb : fb = fitsB n a size) (h : Mn A 2048 I ((xsB size).map encB) 5 (edL n a size fb) w0 w) (hI1 : -9223372036854775808 ≤ a) (hI2 : a ≤ 9223372036854775807) (hs : size ≤ 1000) :
    Calls Tryd.prog 21 #[.pointer (some ⟨A, 0, none⟩), .int .i64 1, .int .i64 a, .int .i64 (size : Int)] w fun e w' => ∃ ao c, e = .returned (.tuple #[.slice ao ln c, .int .i64 jv]) ∧ RdB (.slice ao ln c) (edC size fb) w' ∧ Mn A 2048 I ((xsB size).map encB) 5 (edL n a size fb) w0 w' := by
  subst hj hln
  cases fb with
  | true =>
    obtain ⟨h1, h2, h3, h4⟩ := fitsB_iff.1 hfb.symm
    obtain ⟨k, rfl⟩ : ∃ k : Nat, a = (k : Int) := ⟨a.toNat, by omega⟩
    refine (read_ok _ A 2048 _ (1, edD n (k : Int) size true) _ 1 (k : Int) (size : Int) k size w rfl rfl rfl (by simp [edL]) h.hx (by show k + size ≤ (edD n (k : Int) size true).length; rw [edD_len true (fun _ => ⟨h1, h2, h3, h4⟩)]; omega)).mono fun e w' ⟨v, he, hr, hL, hb⟩ => ?_
    have e1 : ((edD n (k : Int) size true).drop k).take size = xsB size := by
      have := put_back (Ar.zeros n) (xsB size) k (by rw [xs_len, zeros_len]; omega)
      rw [xs_len] at this
      exact this
    have hr2 : RdB v (xsB size) w' := RdB.own (base := w.heap.size) (by rw [xs_len]; rw [e1] at hr; exact hr)
    obtain ⟨ao, c, rfl, _⟩ := hr2.form
    exact ⟨ao, c, he, hr2, h.to hL⟩
  | false =>
    have hno : ¬ Within n a size := fun hw => by rw [fitsB_iff.2 hw] at hfb; cases hfb
    refine (read_no _ A 2048 _ (1, Ar.zeros n) _ 1 a (size : Int) w rfl (by simp [edL, edD]) h.hx (by rw [zeros_len]; exact hno) hI1 hI2 (by omega) (by omega)).mono fun e w' ⟨he, hL, _⟩ => ⟨none, 0, he, rdB_nil w' 0, h.to hL⟩
theorem ed_read2 (A I n size : Nat) (a : Int) (w0 w : World) (fb : Bool) (hfb : fb = fitsB n a size) (h : Mn A 2048 I ((xsB size).map encB) 5 (edL n a size fb) w0 w) :
    Calls Tryd.prog 21 #[.pointer (some ⟨A, 0, none⟩), .int .i64 1, .int .i64 0, .int .i64 (n : Int)] w fun e w' => ∃ ao c, e = .returned (.tuple #[.slice ao n c, .int .i64 0]) ∧ RdB (.slice ao n c) (edD n a size fb) w' ∧ Mn A 2048 I ((xsB size).map encB) 5 (edL n a size fb) w0 w' ∧ Below w.heap.size w w' := by
  have hl : (edD n a size fb).length = n := edD_len fb fun e => fitsB_iff.1 (hfb ▸ e)
  refine (read_ok _ A 2048 _ (1, edD n a size fb) _ 1 0 (n : Int) 0 n w rfl rfl rfl (by simp [edL]) h.hx (by show 0 + n ≤ (edD n a size fb).length; omega)).mono fun e w' ⟨v, he, hr, hL, hb⟩ => ?_
  have e1 : ((edD n a size fb).drop 0).take n = edD n a size fb := by rw [List.drop_zero, List.take_of_length_le (by omega)]
  have hr2 : RdB v (edD n a size fb) w' := RdB.own (base := w.heap.size) (by rw [hl]; rw [e1] at hr; exact hr)
  obtain ⟨ao, c, rfl, _⟩ := hr2.form
  rw [hl] at he hr2
  exact ⟨ao, c, he, hr2, h.to hL, hb⟩
theorem ed_read3 (A I n size : Nat) (a : Int) (w0 w : World) (fb : Bool) (h : Mn A 2048 I ((xsB size).map encB) 5 (edL n a size fb) w0 w) :
    Calls Tryd.prog 21 #[.pointer (some ⟨A, 0, none⟩), .int .i64 2, .int .i64 0, .int .i64 20] w fun e w' => ∃ ao c, e = .returned (.tuple #[.slice ao 20 c, .int .i64 0]) ∧ RdB (.slice ao 20 c) (Ar.zeros 20) w' ∧ Mn A 2048 I ((xsB size).map encB) 5 (edL n a size fb) w0 w' ∧ Below w.heap.size w w' := by
  refine (read_ok _ A 2048 _ (2, Ar.zeros 20) _ 2 0 20 0 20 w rfl rfl rfl (by simp [edL]) h.hx (by rw [zeros_len]; omega)).mono fun e w' ⟨v, he, hr, hL, hb⟩ => ?_
  have e1 : ((Ar.zeros 20).drop 0).take 20 = Ar.zeros 20 := by rw [List.drop_zero, List.take_of_length_le (by rw [zeros_len]; omega)]
  have hr2 : RdB v (Ar.zeros 20) w' := RdB.own (base := w.heap.size) (by rw [zeros_len]; rw [e1] at hr; exact hr)
  obtain ⟨ao, c, rfl, _⟩ := hr2.form
  rw [zeros_len] at he hr2
  exact ⟨ao, c, he, hr2, h.to hL, hb⟩
theorem ed_write99 (A I n size : Nat) (a : Int) (w0 w : World) (fb : Bool) (h : Mn A 2048 I ((xsB size).map encB) 5 (edL n a size fb) w0 w) :
    Calls Tryd.prog 23 #[.pointer (some ⟨A, 0, none⟩), .int .i64 99, .int .i64 0, .slice none 0 0] w fun e w' => e = .returned (.int .i64 5) ∧ Mn A 2048 I ((xsB size).map encB) 5 (edL n a size fb) w0 w' :=
  (write_none _ A 2048 _ _ 99 0 _ [] w (by unfold edL; intro b hb; simp at hb; rcases hb with rfl | rfl <;> simp) h.hx (rdB_nil w 0) (by simp) (by omega) (by omega)).mono fun e w' ⟨he, hL⟩ => ⟨he, h.to hL⟩
theorem ed_alloc1 (A n : Nat) (w0 w : World) (h : HX (fun _ => False) A 2048 [] w0.heap.size w) (hb : Below w0.heap.size w0 w) (hn : n ≤ 500) :
    Calls Tryd.prog 17 #[.pointer (some ⟨A, 0, none⟩), .int .i64 (n : Int)] w fun e w' => e = .returned (.tuple #[.int .i64 1, .int .i64 0]) ∧ HX (fun _ => False) A 2048 [(1, Ar.zeros n)] w0.heap.size w' ∧ Below w0.heap.size w0 w' := by
  have hc : Ar.cost n ≤ 512 := by unfold Ar.cost; (repeat' split) <;> omega
  refine (alloc_ok _ A 2048 [] _ _ n w rfl h (by omega) (by rw [sumC_nil]; omega)).mono fun e w' ⟨L1, L2, e1, hl, he, hL⟩ => ?_
  obtain ⟨rfl, rfl⟩ := List.append_eq_nil_iff.1 e1.symm
  exact ⟨he, hL.at_, hb.trans hL.below⟩
theorem ed_alloc2 (A n : Nat) (w0 w : World) (h : HX (fun _ => False) A 2048 [(1, Ar.zeros n)] w0.heap.size w) (hb : Below w0.heap.size w0 w) (hn : n ≤ 500) :
    Calls Tryd.prog 17 #[.pointer (some ⟨A, 0, none⟩), .int .i64 20] w fun e w' => e = .returned (.tuple #[.int .i64 2, .int .i64 0]) ∧ HX (fun _ => False) A 2048 [(1, Ar.zeros n), (2, Ar.zeros 20)] w0.heap.size w' ∧ Below w0.heap.size w0 w' := by
  have hc : Ar.cost n ≤ 512 := by unfold Ar.cost; (repeat' split) <;> omega
  have hc2 : Ar.cost 20 = 32 := by decide
  refine (alloc_ok _ A 2048 _ _ 20 20 w rfl h (by omega) (by rw [sumC_cons, sumC_nil]; simp only [zeros_len]; omega)).mono fun e w' ⟨L1, L2, e1, hl, he, hL⟩ => ?_
  have hL1 : L1 = [(1, Ar.zeros n)] ∧ L2 = [] := by
    cases L1 with
    | nil =>
      simp at e1
      subst e1
      have := hl.2 (1, Ar.zeros n) (by simp)
      simp at this
    | cons y r =>
      simp at e1
      obtain ⟨rfl, e2, e3⟩ := e1
      exact ⟨by rw [e2], e3⟩
  obtain ⟨rfl, rfl⟩ := hL1
  exact ⟨he, hL.at_, hb.trans hL.below⟩
theorem ed_new (w : World) (hT : TabOk w) : Calls Tryd.prog 15 #[.int .i64 2048] w fun e w' => ∃ A, e = .returned (.tuple #[.pointer (some ⟨A, 0, none⟩), .int .i64 0]) ∧ HX (fun _ => False) A 2048 [] w.heap.size w' ∧ Below w.heap.size w w' :=
  new_x 2048 w (by decide) (by decide) hT
end Go.Proofs.YtdbaocphglijbaaDoor
