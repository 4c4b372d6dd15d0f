/- 7 texts put together: Ih, Ifo, Iwr, Ibl, Ifi, Ihe, WalkMath. -/
import Derived.Laws.BitsAllLaws
import Derived.Deep.QuietTactic
import Derived.Deep.RegionWith
import Derived.BigRegion
import Derived.Test.YtagjjpmhacknpaaDoorJB14
import Derived.Test.YtagjjpmhacknpaaDoorJB15
import Derived.Test.YtagjjpmhacknpaaDoorJB16
/- Package intern: the hash of a name, its chain. -/
set_option maxRecDepth 100000
namespace Go.Proofs.YtagjjpmhacknpaaDoor
open Go.RowKit Go.Shelf
attribute [local go_sem] Oper.semAt_some
/-- FNV-1a, step by step, as a number of 32 bits. -/
def hstep (h : Nat) (c : UInt8) : Nat := (((h ^^^ c.toNat) * 16777619) % 4294967296)
def hashN (l : List UInt8) : Nat := l.foldl hstep 2166136261
theorem hashN_snoc (l : List UInt8) (c : UInt8) : hashN (l ++ [c]) = hstep (hashN l) c := by unfold hashN; rw [List.foldl_append, List.foldl_cons, List.foldl_nil]
theorem fnv_lt : (2166136261 : Nat) < 4294967296 := by omega
theorem fnv_nil (l : List UInt8) : 2166136261 = hashN (l.take 0) := by unfold hashN; rw [List.take_zero, List.foldl_nil]
theorem hstep_int (x : Nat) (c : UInt8) : ((x ^^^ c.toNat : Nat) : Int) * 16777619 % 4294967296 = (hstep x c : Int) := by unfold hstep; rw [Int.natCast_emod, Int.natCast_mul]; rfl
theorem hstep_lt (h : Nat) (c : UInt8) : hstep h c < 4294967296 := Nat.mod_lt _ (by omega)
theorem foldl_hlt : ∀ (l : List UInt8) (h : Nat), h < 4294967296 → l.foldl hstep h < 4294967296
  | [], _, h => h
  | c :: l, h, _ => foldl_hlt l _ (hstep_lt h c)
theorem hashN_lt (l : List UInt8) : hashN l < 4294967296 := by unfold hashN; exact foldl_hlt l _ (by omega)
theorem take_snoc (l : List UInt8) (k : Nat) (h : k < l.length) : l.take (k + 1) = l.take k ++ [l[k]] := by rw [List.take_succ_eq_append_getElem h]
theorem xor_u32 (a b : Nat) (ha : a < 4294967296) (hb : b < 4294967296) : bits .xor .u32 (a : Int) (b : Int) = ((a ^^^ b : Nat) : Int) := by
  have hx : a ^^^ b < 2 ^ 32 := Nat.xor_lt_two_pow (by omega) (by omega)
  have h1 : (BitVec.ofInt 32 (a : Int)).toNat = a := by
    rw [BitVec.ofInt_natCast, BitVec.toNat_ofNat]; exact Nat.mod_eq_of_lt (by omega)
  have h2 : (BitVec.ofInt 32 (b : Int)).toNat = b := by
    rw [BitVec.ofInt_natCast, BitVec.toNat_ofNat]; exact Nat.mod_eq_of_lt (by omega)
  show IntKind.u32.wrap ((BitVec.ofInt 32 (a : Int) ^^^ BitVec.ofInt 32 (b : Int)).toNat : Int) = _
  rw [BitVec.toNat_xor, h1, h2]
  show (((a ^^^ b : Nat) : Int) % (2 ^ 32 : Int)) = _
  omega
theorem wraps_i64 (n : Int) (h0 : 0 ≤ n) (h1 : n < 2 ^ 62) : IntKind.i64.wrap n = n := by rw [IntKind.wrap_i64]; omega
theorem or8 (x y : Int) (h0 : 0 ≤ x) (h1 : x % 256 = 0) (h2 : x < 1099511627776) (h3 : 0 ≤ y) (h4 : y < 256) : bits .or .i64 x y = x + y :=
  bits_join .i64 62 (by decide) wraps_i64 8 x y h0 h1 (by omega) h3 h4 (by omega)
theorem or16 (x y : Int) (h0 : 0 ≤ x) (h1 : x % 65536 = 0) (h2 : x < 1099511627776) (h3 : 0 ≤ y) (h4 : y < 65536) : bits .or .i64 x y = x + y :=
  bits_join .i64 62 (by decide) wraps_i64 16 x y h0 h1 (by omega) h3 h4 (by omega)
theorem or24 (x y : Int) (h0 : 0 ≤ x) (h1 : x % 16777216 = 0) (h2 : x < 1099511627776) (h3 : 0 ≤ y) (h4 : y < 16777216) : bits .or .i64 x y = x + y :=
  bits_join .i64 62 (by decide) wraps_i64 24 x y h0 h1 (by omega) h3 h4 (by omega)

def num4N (a b c d : UInt8) : Nat := a.toNat * 16777216 + b.toNat * 65536 + c.toNat * 256 + d.toNat
theorem num4_eq (a b c d : UInt8) : bits .or .i64 (bits .or .i64 (bits .or .i64 (wrap64 (wrap64 (a.toNat : Int) * 16777216)) (wrap64 (wrap64 (b.toNat : Int) * 65536))) (wrap64 (wrap64 (c.toNat : Int) * 256))) (wrap64 (d.toNat : Int)) = (num4N a b c d : Int) := by
  have ha := a.toNat_lt
  have hb := b.toNat_lt
  have hc := c.toNat_lt
  have hd := d.toNat_lt
  have e : ∀ z : Int, 0 ≤ z → z < 1099511627776 → wrap64 z = z := fun z h0 h1 => by unfold wrap64; omega
  rw [e (a.toNat : Int) (by omega) (by omega), e (b.toNat : Int) (by omega) (by omega), e (c.toNat : Int) (by omega) (by omega), e (d.toNat : Int) (by omega) (by omega)]
  rw [e _ (by omega) (by omega), e _ (by omega) (by omega), e _ (by omega) (by omega)]
  rw [or24 ((a.toNat : Int) * 16777216) ((b.toNat : Int) * 65536) (by omega) (by omega) (by omega) (by omega) (by omega), or16 ((a.toNat : Int) * 16777216 + (b.toNat : Int) * 65536) ((c.toNat : Int) * 256) (by omega) (by omega) (by omega) (by omega) (by omega), or8 _ _ (by omega) (by omega) (by omega) (by omega) (by omega)]
  unfold num4N
  omega


structure TB where
  A : Nat
  T : Nat
  F : Nat
/-- A table's box. -/
def tbBox (t : TB) (n c : Nat) : List Value := [.pointer (some ⟨t.A, 0, none⟩), .slice (some ⟨t.F, 0, none⟩) n n, encI c]
end Go.Proofs.YtagjjpmhacknpaaDoor

/- Package intern: numbers of four bytes. -/
set_option maxRecDepth 100000
namespace Go.Proofs.YtagjjpmhacknpaaDoor
open Go.RowKit Go.Shelf
attribute [local go_sem] Oper.semAt_some
def dec4 : List UInt8 → Nat
  | a :: b :: c :: d :: _ => num4N a b c d
  | _ => 0
def b4 (n : Nat) : List UInt8 := [UInt8.ofNat (n / 16777216), UInt8.ofNat (n / 65536), UInt8.ofNat (n / 256), UInt8.ofNat n]
theorem b4_len (n : Nat) : (b4 n).length = 4 := rfl
theorem dec4_b4 (n : Nat) (r : List UInt8) (h : n < 4294967296) : dec4 (b4 n ++ r) = n := by
  show num4N (UInt8.ofNat (n / 16777216)) (UInt8.ofNat (n / 65536)) (UInt8.ofNat (n / 256)) (UInt8.ofNat n) = n
  unfold num4N
  simp only [UInt8.toNat_ofNat']
  omega
theorem rdB_four {v : Value} {a b c d : UInt8} {r : List UInt8} {W : World} (h : RdB v (a :: b :: c :: d :: r) W) : ∃ (B off n cap : Nat), v = .slice (some ⟨B, off, none⟩) (n + 4) cap ∧ W.cell? ⟨B, off, none⟩ = some (.int .u8 (a.toNat : Int)) ∧ W.cell? ⟨B, off + 1, none⟩ = some (.int .u8 (b.toNat : Int)) ∧ W.cell? ⟨B, off + 2, none⟩ = some (.int .u8 (c.toNat : Int)) ∧ W.cell? ⟨B, off + 3, none⟩ = some (.int .u8 (d.toNat : Int)) := by
  obtain ⟨ao, cap, rfl, hc⟩ := h.form
  obtain ⟨B, off, rfl, h0⟩ := hc 0 (by simp)
  obtain ⟨_, _, e1, h1⟩ := hc 1 (by simp)
  obtain ⟨_, _, e2, h2⟩ := hc 2 (by simp)
  obtain ⟨_, _, e3, h3⟩ := hc 3 (by simp)
  cases e1; cases e2; cases e3
  exact ⟨B, off, r.length, cap, rfl, h0, h1, h2, h3⟩
theorem num4_eq' (a b c d : UInt8) : bits .or .i64 (bits .or .i64 (bits .or .i64 ((a.toNat : Int) * 16777216) ((b.toNat : Int) * 65536)) ((c.toNat : Int) * 256)) (d.toNat : Int) = (num4N a b c d : Int) := by
  have ha := a.toNat_lt
  have hb := b.toNat_lt
  have hc := c.toNat_lt
  have hd := d.toNat_lt
  rw [or24 ((a.toNat : Int) * 16777216) ((b.toNat : Int) * 65536) (by omega) (by omega) (by omega) (by omega) (by omega), or16 ((a.toNat : Int) * 16777216 + (b.toNat : Int) * 65536) ((c.toNat : Int) * 256) (by omega) (by omega) (by omega) (by omega) (by omega), or8 _ _ (by omega) (by omega) (by omega) (by omega) (by omega)]
  unfold num4N
  omega
theorem infoByte' : (Tryd.prog.info? 5).map (fun i => (i.zero, i.size, i.bytes)) = some (some (.int .u8 0), 1, 1) := infoU8
/-- An append at its operation, of elements that were just built. -/
theorem wpList_apdB4 {w : World} {ops : Array Oper} {rest : List Oper} {o : Oper} {a : Act} {Q : Exit → Act → World → Prop} (hg : o.guard = none) (s z : Operand)
    (hop : o.op = Op.call { callee := Callee.builtin Builtin.append, args := #[s, z], argTypes := #[34, 34] }) {base : Nat} {v : Value} {l : List UInt8} (hs : a.eval s = v) (hown : OwnE encB 5 base v l w) (hl : l.length ≤ 900000) (hb : base ≤ w.heap.size) (ad : Addr) (m c : Nat) (news : List UInt8) (hm : news.length = m) (hm2 : m ≤ 10000) (hz : a.eval z = .slice (some ad) m c)
    (hc : ∀ j u, (news.map encB)[j]? = some u → w.cell? (ad.add j) = some u)
    (hK : ∀ v' w', OwnE encB 5 base v' (l ++ news) w' → Apd base v (l ≠ []) w w' → wpList Tryd.prog ops Q rest (a.put o.dst v') w') :
    wpList Tryd.prog ops Q (o :: rest) a w := by
  refine wpList_plain hg fun K hK' => ?_
  obtain ⟨v', w', hrun, r1, r2, _⟩ := run_apd (P := Tryd.prog) encB encB_one w base 34 o.type 5 (.int .u8 0) 1 Tryd.underlying34 infoByte' rfl v l hown ad m c news hm hc (by omega) (by omega) hb
  unfold Oper.wp
  simp [execOp, hop, resolve, invoke, builtin, hs, hz, hrun, Result.andThen]
  exact hK' _ _ (hK v' w' r1 r2)
theorem encB_mod (n : Nat) : encB (UInt8.ofNat n) = .int .u8 ((n : Int) % 256) := by
  unfold encB
  rw [UInt8.toNat_ofNat', Int.natCast_emod]
  rfl
theorem encB_div (n k : Nat) : encB (UInt8.ofNat (n / k)) = .int .u8 ((n : Int) / (k : Int) % 256) := by rw [encB_mod, Int.natCast_ediv]
theorem b4_enc (n : Nat) : (b4 n).map encB = [.int .u8 ((n : Int) / 16777216 % 256), .int .u8 ((n : Int) / 65536 % 256), .int .u8 ((n : Int) / 256 % 256), .int .u8 ((n : Int) % 256)] := by
  have e1 := encB_div n 16777216
  have e2 := encB_div n 65536
  have e3 := encB_div n 256
  have e4 := encB_mod n
  show [encB (UInt8.ofNat (n / 16777216)), encB (UInt8.ofNat (n / 65536)), encB (UInt8.ofNat (n / 256)), encB (UInt8.ofNat n)] = _
  rw [e1, e2, e3, e4]
  rfl
theorem own_shape' {base : Nat} {v : Value} {l : List UInt8} {w : World} (h : OwnE encB 5 base v l w) : ∃ ao n c, v = .slice ao n c := by
  rcases ownE_form h with ⟨rfl, _⟩ | ⟨g, cap, rfl⟩
  · exact ⟨none, 0, 0, rfl⟩
  · exact ⟨_, _, _, rfl⟩
def ApdRet (base : Nat) (v : Value) (l : List UInt8) (w : World) (e : Ending) (w' : World) : Prop := ∃ v', e = .returned v' ∧ OwnE encB 5 base v' l w' ∧ Below base w w' ∧ ∀ (k : Nat) (o : Obj), some k ≠ v.ownBlock → w.heap[k]? = some o → w'.heap[k]? = some o
end Go.Proofs.YtagjjpmhacknpaaDoor

/- Package intern: a block is written. -/
set_option maxRecDepth 100000
namespace Go.Proofs.YtagjjpmhacknpaaDoor
open Go.RowKit Go.Shelf
attribute [local go_sem] Oper.semAt_some
theorem wpList_apdS {w : World} {ops : Array Oper} {rest : List Oper} {o : Oper} {a : Act} {Q : Exit → Act → World → Prop} (hg : o.guard = none) (s z : Operand)
    (hop : o.op = Op.call { callee := Callee.builtin Builtin.append, args := #[s, z], argTypes := #[34, 9] }) {base : Nat} {v : Value} {l : List UInt8} (hs : a.eval s = v) (hown : OwnE encB 5 base v l w) (hb : base ≤ w.heap.size) (news : List UInt8) (hz : a.eval z = .string ⟨news.toArray⟩) (b1 : l.length + news.length ≤ 1000000)
    (hK : ∀ v' w', OwnE encB 5 base v' (l ++ news) w' → Below base w w' → wpList Tryd.prog ops Q rest (a.put o.dst v') w') :
    wpList Tryd.prog ops Q (o :: rest) a w := by
  obtain ⟨i, hi, hz0, hz1, hz2⟩ := info_parts infoByte'
  refine wpList_plain hg fun K hK' => ?_
  have hsz : (⟨news.toArray⟩ : ByteArray).size = news.length := by show news.toArray.size = _; simp
  obtain ⟨v', w', hrun, r1, r2, r3⟩ := Lib.run_append_own_string (P := Tryd.prog) w base 34 9 o.type 5 i Tryd.underlying34 Tryd.underlying9 hi hz0 hz1 hz2 v l.length (l.map encB) hown ⟨news.toArray⟩ (by rw [hsz]; exact Nat.le_trans b1 (by unfold maxLen; decide)) (by rw [hsz]; omega) hb
  rw [hsz, strCells_enc] at r1
  unfold Oper.wp
  simp [execOp, hop, resolve, invoke, builtin, hs, hz, hrun, Result.andThen]
  exact hK' _ _ (hK v' w' (by unfold OwnE; rw [List.map_append, List.length_append]; exact r1) ((Below.refl base w).grown r2 hb (fun k e => (World.ownsRow.lt hown k e).1)))
theorem own_ne {base : Nat} {v : Value} {l : List UInt8} {w : World} (h : OwnE encB 5 base v l w) {k : Nat} {c : List Value} {t : TypeId} (hb : Blk w k c t) (ht : t ≠ 5) : some k ≠ v.ownBlock := fun e => by
  rcases h.2 with ⟨rfl, _⟩ | ⟨g, cap, cur, rfl, _, h4, _⟩
  · cases e
  · have e1 : k = g := Option.some.inj e
    subst e1
    have := (show w.heap[k]? = _ from hb).symm.trans h4
    injection this with this
    injection this with _ this
    exact ht this
theorem ApdRet.blk {base : Nat} {v : Value} {l l' : List UInt8} {w w' : World} {e : Ending} (h : ApdRet base v l' w e w') (ho : OwnE encB 5 base v l w) {k : Nat} {c : List Value} {t : TypeId} (hb : Blk w k c t) (ht : t ≠ 5) : Blk w' k c t := by
  obtain ⟨v', _, _, _, h4⟩ := h
  exact h4 k _ (own_ne ho hb ht) hb
theorem put_all' (d l : List UInt8) (h : l.length = d.length) : Ar.put d 0 l = l := by
  unfold Ar.put
  rw [Nat.zero_add, h, List.drop_length]
  simp
def blkE (uses next : Nat) (name : List UInt8) : List UInt8 := b4 uses ++ b4 next ++ name
theorem blkE_len (uses next : Nat) (name : List UInt8) : (blkE uses next name).length = 8 + name.length := by simp [blkE, b4_len]; omega
end Go.Proofs.YtagjjpmhacknpaaDoor

/- Package intern: a block is read. -/
set_option maxRecDepth 100000
namespace Go.Proofs.YtagjjpmhacknpaaDoor
open Go.RowKit Go.Shelf
attribute [local go_sem] Oper.semAt_some
theorem RdB.drop {ao : Option Addr} {n c k : Nat} {l : List UInt8} {W : World} (h : RdB (.slice ao n c) l W) (hc : n ≤ c) (hk : k ≤ n) :
    ∃ ao', (∀ W' : World, (Instr.slice 34 (.slice ao n c) (some (.int .i64 (k : Int))) none none).run Tryd.prog W' = .ok (.slice ao' (n - k) (c - k)) W') ∧ (∀ W', RdB (.slice ao n c) l W' → RdB (.slice ao' (n - k) (c - k)) (l.drop k) W') := by
  have hn : n = l.length := by
    obtain ⟨_, _, e, _⟩ := h.form
    cases e; rfl
  subst hn
  have hu : Tryd.prog.underlying 34 = some (.slice (Tryd.prog.elem 34)) := by kernel_rfl
  have hs : ∀ W', (sizeOf (Tryd.prog.elem 34)).run Tryd.prog W' = .ok 1 W' := fun W' => by
    obtain ⟨i, hi, _, h1, _⟩ := info_parts infoU8
    have he : Tryd.prog.elem 34 = 5 := by kernel_rfl
    rw [he]
    simp [sizeOf, typeInfo, hi, h1]
  refine ⟨if c = k then ao else ao.map (·.add (k * 1)), fun W' => by rw [run_slice_l (w := W') 34 ao l.length c hu .i64 (k : Int) (by omega) (by omega), hs W']; rfl, fun W' h' => ⟨_, _, by rw [List.length_drop], fun j hj => ?_⟩⟩
  rw [List.length_drop] at hj
  obtain ⟨ao', cap', e, hc'⟩ := h'.form
  cases e
  obtain ⟨g, off, e, c0⟩ := hc' (k + j) (by omega)
  subst e
  refine ⟨g, off + k, by rw [if_neg (by omega)]; simp [Addr.add], ?_⟩
  rw [List.getElem_drop, Nat.add_assoc]
  exact c0
def agB (uses next : Nat) (name : List UInt8) : Value := .agg #[.int .i64 (uses : Int), .int .i64 (next : Int), .string ⟨name.toArray⟩]
def BlockNo (x : Nat → Prop) (A B : Nat) (L : List Bl) (n0 : Nat) (w : World) (e : Ending) (w' : World) : Prop := e = .returned (.tuple #[agB 0 0 [], .bool false]) ∧ LX x A B L n0 w w' ∧ Below w.heap.size w w'
def BlockYes (x : Nat → Prop) (A B : Nat) (L : List Bl) (n0 : Nat) (d : List UInt8) (w : World) (e : Ending) (w' : World) : Prop := e = .returned (.tuple #[agB (dec4 d) (dec4 (d.drop 4)) (d.drop 8), .bool true]) ∧ LX x A B L n0 w w' ∧ Below w.heap.size w w'
end Go.Proofs.YtagjjpmhacknpaaDoor

/- Package intern: a name is looked for. -/
set_option maxRecDepth 100000
namespace Go.Proofs.YtagjjpmhacknpaaDoor
open Go.RowKit Go.Shelf
attribute [local go_sem] Oper.semAt_some
/-- A name that is there. -/
structure Ent where
  id : Nat
  uses : Nat
  name : List UInt8
def headId : List Ent → Nat
  | [] => 0
  | e :: _ => e.id
def lastId (P : List Ent) : Nat := match P.getLast? with
  | some e => e.id
  | none => 0
def linked (L : List Bl) : List Ent → Prop
  | [] => True
  | e :: r => (e.id, blkE e.uses (headId r) e.name) ∈ L ∧ linked L r
/-- How many names the first so many chains have. -/
def tot (C : Nat → List Ent) : Nat → Nat
  | 0 => 0
  | n + 1 => tot C n + (C n).length
def upd (C : Nat → List Ent) (c : Nat) (l : List Ent) : Nat → List Ent := fun k => if k = c then l else C k
theorem upd_same (C : Nat → List Ent) (c : Nat) (l : List Ent) : upd C c l c = l := by unfold upd; rw [if_pos rfl]
theorem upd_other {C : Nat → List Ent} {c k : Nat} {l : List Ent} (h : k ≠ c) : upd C c l k = C k := by unfold upd; rw [if_neg h]
theorem le_tot {C : Nat → List Ent} : ∀ {n c : Nat}, c < n → (C c).length ≤ tot C n
  | n + 1, c, h => by
    unfold tot
    by_cases e : c = n
    · subst e; omega
    · have := le_tot (C := C) (n := n) (c := c) (by omega); omega
theorem tot_upd_out {C : Nat → List Ent} {c : Nat} {l : List Ent} : ∀ {n : Nat}, n ≤ c → tot (upd C c l) n = tot C n
  | 0, _ => rfl
  | n + 1, h => by
    unfold tot
    rw [tot_upd_out (by omega), upd_other (by omega)]
theorem tot_upd {C : Nat → List Ent} {c : Nat} {l : List Ent} : ∀ {n : Nat}, c < n → tot (upd C c l) n + (C c).length = tot C n + l.length
  | n + 1, h => by
    unfold tot
    by_cases e : c = n
    · subst e
      rw [tot_upd_out (Nat.le_refl _), upd_same]
      omega
    · have := tot_upd (C := C) (l := l) (n := n) (c := c) (by omega)
      rw [upd_other (show n ≠ c by omega)]
      omega
structure TI (nn : Nat) (C : Nat → List Ent) (F : List Nat) (cnt : Nat) (L : List Bl) : Prop where
  pos : 1 ≤ nn
  lim : nn ≤ 1000000
  len : F.length = nn
  first : ∀ c, c < nn → F[c]? = some (headId (C c))
  link : ∀ c, c < nn → linked L (C c)
  hash : ∀ c, c < nn → ∀ e ∈ C c, hashN e.name % nn = c
  names : ∀ c, c < nn → ((C c).map Ent.name).Nodup
  count : tot C nn = cnt
  clim : cnt ≤ 1000000
  small : ∀ c, c < nn → ∀ e ∈ C c, e.uses < 2147483648 ∧ e.id < 2147483648 ∧ e.name.length ≤ 300
theorem TI.most {nn : Nat} {C : Nat → List Ent} {F : List Nat} {cnt : Nat} {L : List Bl} (I : TI nn C F cnt L) (c : Nat) (h : c < nn) : (C c).length ≤ cnt := by rw [← I.count]; exact le_tot h
theorem linked_app {L : List Bl} : ∀ {P : List Ent} {e : Ent} {R : List Ent}, linked L (P ++ e :: R) → (e.id, blkE e.uses (headId R) e.name) ∈ L
  | [], _, _, h => h.1
  | _ :: P, _, _, h => linked_app (P := P) h.2
theorem dec_blk (uses next : Nat) (name : List UInt8) (hu : uses < 4294967296) (hx : next < 4294967296) : dec4 (blkE uses next name) = uses ∧ dec4 ((blkE uses next name).drop 4) = next ∧ (blkE uses next name).drop 8 = name := by
  refine ⟨?_, ?_, rfl⟩
  · unfold blkE
    rw [List.append_assoc]
    exact dec4_b4 uses _ hu
  · show dec4 (b4 next ++ name) = next
    exact dec4_b4 next _ hx
theorem headId_lt {R : List Ent} (h : ∀ e ∈ R, e.id < 2147483648) : headId R < 2147483648 := by
  cases R with
  | nil => simp [headId]
  | cons e r => exact h e (by simp)
def encF (x : Nat) : Value := .int .i32 (x : Int)
def entV (c ahead id uses next : Nat) (name : List UInt8) : Value := .agg #[.int .i64 (c : Int), .int .i64 (ahead : Int), .int .i64 (id : Int), .int .i64 (uses : Int), .int .i64 (next : Int), .string ⟨name.toArray⟩]
def FindRet (x : Nat → Prop) (A B nn : Nat) (C : Nat → List Ent) (L : List Bl) (n0 : Nat) (l : List UInt8) (w : World) (e : Ending) (w' : World) : Prop :=
  LX x A B L n0 w w' ∧ Below w.heap.size w w' ∧ (((∀ e ∈ C (hashN l % nn), e.name ≠ l) ∧ e = .returned (.tuple #[entV 0 0 0 0 0 [], .bool false])) ∨
    (∃ P y R, C (hashN l % nn) = P ++ y :: R ∧ y.name = l ∧ e = .returned (.tuple #[entV (hashN l % nn) (lastId P) y.id y.uses (headId R) y.name, .bool true])))
theorem six_end {W : World} {R n : Nat} {l : List Value} {T : TypeId} (h : Blk W R l T) (hn : n ≤ R) (hl : l.length = 6) (v0 v1 v2 v3 v4 v5 : Value) : Blk ((((((W.setCell ⟨R, 0, none⟩ v0).setCell ⟨R, 1, none⟩ v1).setCell ⟨R, 2, none⟩ v2).setCell ⟨R, 3, none⟩ v3).setCell ⟨R, 4, none⟩ v4).setCell ⟨R, 5, none⟩ v5) R [v0, v1, v2, v3, v4, v5] T ∧
    Below n W ((((((W.setCell ⟨R, 0, none⟩ v0).setCell ⟨R, 1, none⟩ v1).setCell ⟨R, 2, none⟩ v2).setCell ⟨R, 3, none⟩ v3).setCell ⟨R, 4, none⟩ v4).setCell ⟨R, 5, none⟩ v5) := by
  refine ⟨?_, ((((((Below.refl n W).setCell (p := ⟨R, 0, none⟩) hn v0).setCell (p := ⟨R, 1, none⟩) hn v1).setCell (p := ⟨R, 2, none⟩) hn v2).setCell (p := ⟨R, 3, none⟩) hn v3).setCell (p := ⟨R, 4, none⟩) hn v4).setCell (p := ⟨R, 5, none⟩) hn v5⟩
  have := (((((h.set 0 v0).set 1 v1).set 2 v2).set 3 v3).set 4 v4).set 5 v5
  match l, hl with
  | [a, b, c, d, e, f], _ => exact this
theorem lastId_snoc (P : List Ent) (y : Ent) : lastId (P ++ [y]) = y.id := by unfold lastId; simp
end Go.Proofs.YtagjjpmhacknpaaDoor

/- Package intern: what has an id. -/
set_option maxRecDepth 100000
namespace Go.Proofs.YtagjjpmhacknpaaDoor
open Go.RowKit Go.Shelf
attribute [local go_sem] Oper.semAt_some
theorem nodup_at {l : List Ent} (h : (l.map Ent.name).Nodup) {P R : List Ent} {y z : Ent} (e : l = P ++ z :: R) (hy : y ∈ l) (hn : z.name = y.name) : z = y := by
  subst e
  unfold List.Nodup at h
  rw [List.pairwise_map, List.pairwise_append, List.pairwise_cons] at h
  rcases List.mem_append.1 hy with hy | hy
  · exact absurd hn.symm (h.2.2 y hy z (by simp))
  · rcases List.mem_cons.1 hy with rfl | hy
    · rfl
    · exact absurd hn (h.2.1.1 y hy)
def HeldYes (x : Nat → Prop) (A B : Nat) (C : Nat → List Ent) (L : List Bl) (n0 c : Nat) (y : Ent) (w : World) (e : Ending) (w' : World) : Prop :=
  LX x A B L n0 w w' ∧ Below w.heap.size w w' ∧ ∃ P R, C c = P ++ y :: R ∧ e = .returned (.tuple #[entV c (lastId P) y.id y.uses (headId R) y.name, .bool true])
theorem TI.mem {nn cnt : Nat} {C : Nat → List Ent} {F : List Nat} {L : List Bl} (I : TI nn C F cnt L) {c : Nat} (hc : c < nn) {y : Ent} (hy : y ∈ C c) : ∃ nx, nx < 2147483648 ∧ (y.id, blkE y.uses nx y.name) ∈ L := by
  obtain ⟨P, R, e⟩ := List.append_of_mem hy
  exact ⟨headId R, headId_lt fun z hz => (I.small c hc z (by rw [e]; simp [hz])).2.1, linked_app (P := P) (by rw [← e]; exact I.link c hc)⟩
end Go.Proofs.YtagjjpmhacknpaaDoor

/- Where the labels of a name stand. -/
namespace Go.Proofs.YtagjjpmhacknpaaDoor.Nm

/-- How many bytes labels take. -/
def encL : List (List UInt8) → Nat
  | [] => 0
  | l :: ls => 1 + l.length + encL ls
/-- Where labels stand, the first one at k. -/
def posOf : Nat → List (List UInt8) → List Nat
  | _, [] => []
  | k, l :: ls => k :: posOf (k + (1 + l.length)) ls
theorem encL_append (a b : List (List UInt8)) : encL (a ++ b) = encL a + encL b := by
  induction a with
  | nil => simp [encL]
  | cons l a ih => simp only [List.cons_append, encL, ih]; omega
theorem posOf_append (k : Nat) (a b : List (List UInt8)) : posOf k (a ++ b) = posOf k a ++ posOf (k + encL a) b := by
  induction a generalizing k with
  | nil => simp [posOf, encL]
  | cons l a ih => simp only [List.cons_append, posOf, ih, encL, Nat.add_assoc]
theorem posOf_length (k : Nat) (a : List (List UInt8)) : (posOf k a).length = a.length := by
  induction a generalizing k with
  | nil => rfl
  | cons l a ih => simp [posOf, ih]
theorem made_length (ls : List (List UInt8)) : (made ls).length = encL ls + 1 := by
  induction ls with
  | nil => rfl
  | cons l ls ih => simp [made, encL, ih]; omega
theorem made_drop (a b : List (List UInt8)) : (made (a ++ b)).drop (encL a) = made b := by
  induction a with
  | nil => rfl
  | cons l a ih =>
    rw [List.cons_append, made, encL, show 1 + l.length + encL a = (l.length + encL a) + 1 by omega, List.drop_succ_cons, List.drop_append, List.drop_of_length_le (by omega), List.nil_append]
    rw [show l.length + encL a - l.length = encL a by omega, ih]
theorem length_le_encL {ls : List (List UInt8)} : ls.length ≤ encL ls := by
  induction ls with
  | nil => simp
  | cons l ls ih => simp [encL]; omega

/-- A place at which a label stands within n. -/
def OkPos (n : List UInt8) (x : Nat) : Prop := ∃ h : x < n.length, x + 1 + n[x].toNat ≤ n.length
abbrev Pos (n : List UInt8) := { x : Nat // OkPos n x }
def labAt (n : List UInt8) (x : Nat) : List UInt8 := (n.drop (x + 1)).take (n[x]?.getD 0).toNat
def labsD (n : List UInt8) : List (List UInt8) := (labs n).getD []
def placesN (n : List UInt8) : List Nat := posOf 0 (labsD n)

theorem at_rest {n : List UInt8} {a b : List (List UInt8)} (h : n = made (a ++ b)) : n.drop (encL a) = made b := by rw [h, made_drop]
theorem at_end {n : List UInt8} {a : List (List UInt8)} (h : n = made a) : ∃ hk : encL a < n.length, n[encL a] = 0 := by
  have hl : n.length = encL a + 1 := by rw [h, made_length]
  refine ⟨by omega, ?_⟩
  have := at_rest (b := []) (n := n) (a := a) (by simpa using h)
  rw [drop_cons (by omega : encL a < n.length), made] at this
  exact (List.cons.inj this).1
theorem at_label {n : List UInt8} {a b : List (List UInt8)} {l : List UInt8} (h : n = made (a ++ l :: b)) (g : good (a ++ l :: b)) :
    ∃ hk : encL a < n.length, n[encL a] ≠ 0 ∧ n[encL a].toNat = l.length ∧ 1 ≤ l.length ∧ l.length ≤ 63 ∧ encL a + 1 + l.length < n.length ∧ labAt n (encL a) = l := by
  obtain ⟨h1, h2⟩ := g l (by simp)
  have hl : n.length = encL a + (1 + l.length + encL b) + 1 := by rw [h, made_length, encL_append, encL]
  have hk : encL a < n.length := by omega
  have hd := at_rest h
  have hd' := hd
  rw [drop_cons hk, made] at hd
  obtain ⟨e1, e2⟩ := List.cons.inj hd
  refine ⟨hk, ?_, ?_, h1, h2, by omega, ?_⟩
  · rw [e1]; exact ofNat_ne h1 h2
  · rw [e1]; exact ofNat_toNat h2
  · unfold labAt
    rw [List.getElem?_eq_getElem hk, Option.getD_some, e1, ofNat_toNat h2, e2, List.take_left']
    rfl
theorem labAt_of {n : List UInt8} {x : Nat} (h : x < n.length) : labAt n x = (n.drop (x + 1)).take n[x].toNat := by
  unfold labAt
  rw [List.getElem?_eq_getElem h, Option.getD_some]
theorem labAt_places {n : List UInt8} {a b : List (List UInt8)} (h : n = made (a ++ b)) (g : good (a ++ b)) : (posOf (encL a) b).map (labAt n) = b := by
  induction b generalizing a with
  | nil => rfl
  | cons l b ih =>
    obtain ⟨_, _, _, _, _, _, e⟩ := at_label h g
    have h' : n = made ((a ++ [l]) ++ b) := by simpa using h
    have g' : good ((a ++ [l]) ++ b) := by simpa using g
    have := ih h' g'
    rw [encL_append] at this
    simp only [encL, Nat.add_zero] at this
    simp only [posOf, List.map_cons, e, this]
theorem labAt_placesN (n : List UInt8) : (placesN n).map (labAt n) = labsD n := by
  unfold placesN labsD
  cases h : labs n with
  | none => rfl
  | some ls =>
    obtain ⟨e, g, _⟩ := labs_iff.1 h
    exact labAt_places (a := []) e g

def parent (n : List UInt8) : List UInt8 := match labsD n with | _ :: ls => made ls | [] => [0]
theorem parent_nil {n : List UInt8} (h : labsD n = []) : parent n = [0] := by unfold parent; rw [h]
theorem labsD_made {n : List UInt8} (h : labsD n ≠ []) : n = made (labsD n) ∧ good (labsD n) ∧ n.length ≤ 255 ∧ labs n = some (labsD n) := by
  unfold labsD at *
  cases e : labs n with
  | none => rw [e] at h; exact absurd rfl h
  | some ls =>
    obtain ⟨a, b, c⟩ := labs_iff.1 e
    exact ⟨a, b, c, rfl⟩
theorem parent_cons {n l : List UInt8} {ls : List (List UInt8)} (h : labsD n = l :: ls) : ∃ hk : 0 < n.length, n[0].toNat = l.length ∧ 1 + l.length ≤ n.length ∧ parent n = n.drop (1 + l.length) := by
  obtain ⟨e, g, hl, _⟩ := labsD_made (n := n) (by rw [h]; simp)
  rw [h] at e g
  obtain ⟨hk, _, h2, _, _, h5, _⟩ := at_label (n := n) (a := []) (b := ls) (l := l) e g
  have h6 := at_rest (n := n) (a := [l]) (b := ls) e
  simp only [encL] at *
  refine ⟨hk, h2, by omega, ?_⟩
  unfold parent
  rw [h]
  simpa using h6.symm


def under (n z : List UInt8) : Bool :=
  match labs n, labs z with
  | some a, some b => decide (b.map folded <:+ a.map folded)
  | _, _ => false
/-- As Under goes: label by label. -/
def underC (n z : List UInt8) : Bool := (placesN n).any (fun k => same (n.drop k) z) || (valid n && z == [0])
theorem underC_yes {n z : List UInt8} {k : Nat} (h : k ∈ placesN n) (hs : same (n.drop k) z = true) : underC n z = true := by
  unfold underC
  rw [List.any_eq_true.2 ⟨k, h, hs⟩, Bool.true_or]
theorem underC_no {n z : List UInt8} (h : ∀ k ∈ placesN n, same (n.drop k) z = false) : underC n z = (valid n && z == [0]) := by
  unfold underC
  rw [List.any_eq_false.2 (fun k hk => by rw [h k hk]; simp), Bool.false_or]

theorem small_len {c : UInt8} (h : c.toNat ≤ 63) : small c = c := small_no (by omega)
theorem folded_made {ls : List (List UInt8)} (g : good ls) : folded (made ls) = made (ls.map folded) := by
  induction ls with
  | nil => rfl
  | cons l ls ih =>
    obtain ⟨h1, h2⟩ := g l (by simp)
    have := ih (fun x hx => g x (List.mem_cons_of_mem _ hx))
    simp only [made, List.map_cons, folded_length]
    rw [← this]
    simp only [folded, List.map_cons, List.map_append]
    rw [small_len (by rw [ofNat_toNat h2]; exact h2)]
theorem good_folded {ls : List (List UInt8)} (g : good ls) : good (ls.map folded) := by
  intro l hl
  obtain ⟨x, hx, rfl⟩ := List.mem_map.1 hl
  rw [folded_length]
  exact g x hx
theorem made_inj {a b : List (List UInt8)} (ga : good a) (gb : good b) (h : made a = made b) : a = b := by
  have h1 := labsU_made ga
  rw [h, labsU_made gb] at h1
  exact (Option.some.inj h1).symm
theorem good_suffix {a b : List (List UInt8)} (g : good (a ++ b)) : good b := fun x hx => g x (List.mem_append_right _ hx)
theorem same_made {b zl : List (List UInt8)} {z : List UInt8} (g : good b) (hb : (made b).length ≤ 255) (hz : labs z = some zl) : same (made b) z = decide (b.map folded = zl.map folded) := by
  obtain ⟨ez, gz, _⟩ := labs_iff.1 hz
  have hv : valid (made b) = true := by unfold valid; rw [labs_iff.2 ⟨rfl, g, hb⟩]; rfl
  have hvz : valid z = true := by unfold valid; rw [hz]; rfl
  rw [Bool.eq_iff_iff]
  simp only [same, hv, hvz, Bool.true_and, beq_iff_eq, decide_eq_true_eq]
  rw [ez, folded_made g, folded_made gz]
  exact ⟨fun h => made_inj (good_folded g) (good_folded gz) h, fun h => by rw [h]⟩
theorem same_invalid {a z : List UInt8} (hz : labs z = none) : same a z = false := by
  unfold same valid
  rw [hz]; simp
theorem any_places {n z : List UInt8} {a b zl : List (List UInt8)} (h : n = made (a ++ b)) (g : good (a ++ b)) (hl : n.length ≤ 255) (hz : labs z = some zl) :
    ((posOf (encL a) b).any (fun k => same (n.drop k) z) || decide (zl = [])) = decide (zl.map folded <:+ b.map folded) := by
  induction b generalizing a with
  | nil =>
    simp [posOf]
  | cons l b ih =>
    have h' : n = made ((a ++ [l]) ++ b) := by simpa using h
    have g' : good ((a ++ [l]) ++ b) := by simpa using g
    have i := ih h' g'
    rw [encL_append] at i
    simp only [encL, Nat.add_zero] at i
    have hd := at_rest h
    have hs : same (n.drop (encL a)) z = decide ((l :: b).map folded = zl.map folded) := by
      rw [hd]
      refine same_made (good_suffix g) ?_ hz
      have : (n.drop (encL a)).length ≤ 255 := by rw [List.length_drop]; omega
      rw [hd] at this
      exact this
    simp only [posOf, List.any_cons, hs, Bool.or_assoc, i]
    rw [Bool.eq_iff_iff]
    simp only [Bool.or_eq_true, decide_eq_true_eq, List.map_cons]
    rw [List.suffix_cons_iff]
    exact ⟨fun h => h.elim (fun e => Or.inl e.symm) Or.inr, fun h => h.elim (fun e => Or.inl e.symm) Or.inr⟩
theorem underC_eq (n z : List UInt8) : underC n z = under n z := by
  unfold under
  cases hn : labs n with
  | none =>
    unfold underC placesN labsD valid
    rw [hn]; simp [posOf]
  | some a =>
    cases hz : labs z with
    | none =>
      have e0 : z ≠ [0] := fun e => by rw [e] at hz; cases hz
      unfold underC
      rw [List.any_eq_false.2 (fun k hk => by rw [same_invalid hz]; simp)]
      simp [e0]
    | some zl =>
      obtain ⟨e, g, hl⟩ := labs_iff.1 hn
      obtain ⟨ez, gz, _⟩ := labs_iff.1 hz
      have := any_places (a := []) (b := a) e g hl hz
      simp only [encL] at this
      show _ = decide (zl.map folded <:+ a.map folded)
      rw [← this]
      unfold underC placesN labsD valid
      rw [hn]
      simp only [Option.getD_some, Option.isSome_some, Bool.true_and]
      congr 1
      rw [Bool.eq_iff_iff]
      simp only [beq_iff_eq, decide_eq_true_eq]
      constructor
      · intro h
        rw [h] at hz
        cases hz
        rfl
      · intro h
        rw [ez, h]
        rfl

/-- As Common goes: the first part of a that b is under. -/
def commonC (a b : List UInt8) : List UInt8 := match (placesN a).find? (fun k => under b (a.drop k)) with | some k => a.drop k | none => [0]
theorem commonC_none {a b : List UInt8} (h : ∀ k ∈ placesN a, under b (a.drop k) = false) : commonC a b = [0] := by
  unfold commonC
  rw [List.find?_eq_none.2 (fun k hk => by rw [h k hk]; simp)]
theorem commonC_some {a b : List UInt8} {pre : List Nat} {k : Nat} (hp : pre ++ [k] <+: placesN a) (h : ∀ j ∈ pre, under b (a.drop j) = false) (hk : under b (a.drop k) = true) : commonC a b = a.drop k := by
  obtain ⟨r, e⟩ := hp
  unfold commonC
  rw [← e, List.append_assoc, List.find?_append, List.find?_eq_none.2 (fun j hj => by rw [h j hj]; simp)]
  simp [hk]

/-- Labels without an end. -/
def encs : List (List UInt8) → List UInt8
  | [] => []
  | l :: ls => UInt8.ofNat l.length :: (l ++ encs ls)
theorem made_encs (ls : List (List UInt8)) : made ls = encs ls ++ [0] := by
  induction ls with
  | nil => rfl
  | cons l ls ih => simp [made, encs, ih]
theorem encs_append (a b : List (List UInt8)) : encs (a ++ b) = encs a ++ encs b := by
  induction a with
  | nil => rfl
  | cons l a ih => simp [encs, ih]
theorem encs_length (a : List (List UInt8)) : (encs a).length = encL a := by
  have := made_length a
  rw [made_encs, List.length_append, List.length_singleton] at this
  omega
/-- A label may be one, and goes in. -/
def fits (k : Nat) (l : List UInt8) : Bool := decide (1 ≤ l.length) && decide (l.length ≤ 63) && decide (k + l.length + 2 ≤ 255)
def fitsAll : Nat → List (List UInt8) → Bool
  | _, [] => true
  | k, l :: ls => fits k l && fitsAll (k + (1 + l.length)) ls
def join (ls : List (List UInt8)) : Option (List UInt8) := if fitsAll 0 ls then some (made ls) else none
theorem fitsAll_append (k : Nat) (a b : List (List UInt8)) : fitsAll k (a ++ b) = (fitsAll k a && fitsAll (k + encL a) b) := by
  induction a generalizing k with
  | nil => simp [fitsAll, encL]
  | cons l a ih => simp only [List.cons_append, fitsAll, ih, encL, Bool.and_assoc, Nat.add_assoc]
theorem fitsAll_iff (k : Nat) (ls : List (List UInt8)) (hk : k ≤ 254) : fitsAll k ls = true ↔ good ls ∧ k + encL ls ≤ 254 := by
  induction ls generalizing k with
  | nil => simp [fitsAll, good, encL, hk]
  | cons l ls ih =>
    simp only [fitsAll, Bool.and_eq_true, fits, decide_eq_true_eq, encL]
    constructor
    · rintro ⟨⟨⟨h1, h2⟩, h3⟩, h4⟩
      obtain ⟨g, h5⟩ := (ih (k + (1 + l.length)) (by omega)).1 h4
      refine ⟨?_, by omega⟩
      intro x hx
      rcases List.mem_cons.1 hx with rfl | hx
      · exact ⟨h1, h2⟩
      · exact g x hx
    · rintro ⟨g, h5⟩
      obtain ⟨h1, h2⟩ := g l (by simp)
      exact ⟨⟨⟨h1, h2⟩, by omega⟩, (ih (k + (1 + l.length)) (by omega)).2 ⟨fun x hx => g x (List.mem_cons_of_mem _ hx), by omega⟩⟩
theorem join_some {ls : List (List UInt8)} {n : List UInt8} : join ls = some n ↔ n = made ls ∧ good ls ∧ n.length ≤ 255 := by
  unfold join
  have h := fitsAll_iff 0 ls (by omega)
  split
  · rename_i hf
    obtain ⟨g, hl⟩ := h.1 hf
    constructor
    · intro e
      obtain rfl := Option.some.inj e
      exact ⟨rfl, g, by rw [made_length]; omega⟩
    · rintro ⟨rfl, _, _⟩; rfl
  · rename_i hf
    constructor
    · intro e; cases e
    · rintro ⟨rfl, g, hl⟩
      rw [made_length] at hl
      exact absurd (h.2 ⟨g, by omega⟩) hf
theorem join_labs {ls : List (List UInt8)} {n : List UInt8} : join ls = some n ↔ labs n = some ls := by
  rw [join_some, labs_iff]

theorem join_none_at {ls : List (List UInt8)} {k : Nat} (hk : k < ls.length) (h : fits (encL (ls.take k)) ls[k] = false) : join ls = none := by
  have e : ls = ls.take k ++ ls[k] :: ls.drop (k + 1) := by rw [← List.drop_eq_getElem_cons hk, List.take_append_drop]
  unfold join
  rw [if_neg]
  rw [e, fitsAll_append]
  simp only [fitsAll, Nat.zero_add, h, Bool.false_and, Bool.and_false]
  decide
theorem fitsAll_take {ls : List (List UInt8)} {k : Nat} (hk : k < ls.length) (h : fitsAll 0 (ls.take k) = true) (hf : fits (encL (ls.take k)) ls[k] = true) : fitsAll 0 (ls.take (k + 1)) = true := by
  rw [List.take_succ_eq_append_getElem hk, fitsAll_append, h]
  simp [fitsAll, hf]
theorem encs_take {ls : List (List UInt8)} {k : Nat} (hk : k < ls.length) : encs (ls.take (k + 1)) = (encs (ls.take k) ++ [UInt8.ofNat ls[k].length]) ++ ls[k] := by
  rw [List.take_succ_eq_append_getElem hk, encs_append]
  simp [encs]
theorem fits_no1 {k : Nat} {l : List UInt8} (h : l = []) : fits k l = false := by simp [fits, h]
theorem fits_no2 {k : Nat} {l : List UInt8} (h : 63 < l.length) : fits k l = false := by
  have : ¬ l.length ≤ 63 := by omega
  simp [fits, this]
theorem fits_no3 {k : Nat} {l : List UInt8} (h : 255 < k + l.length + 2) : fits k l = false := by
  have : ¬ k + l.length + 2 ≤ 255 := by omega
  simp [fits, this]
theorem fits_yes {k : Nat} {l : List UInt8} (h1 : l ≠ []) (h2 : ¬ 63 < l.length) (h3 : ¬ 255 < k + l.length + 2) : fits k l = true := by
  have : 1 ≤ l.length := List.length_pos_iff.2 h1
  simp [fits]
  omega

theorem places_ok_at {n : List UInt8} {a b : List (List UInt8)} (h : n = made (a ++ b)) (g : good (a ++ b)) : ∀ x ∈ posOf (encL a) b, OkPos n x := by
  induction b generalizing a with
  | nil => intro x hx; cases hx
  | cons l b ih =>
    intro x hx
    obtain ⟨hk, _, h2, _, _, h5, _⟩ := at_label h g
    rcases List.mem_cons.1 hx with rfl | hx
    · exact ⟨hk, by omega⟩
    · have h' : n = made ((a ++ [l]) ++ b) := by simpa using h
      have g' : good ((a ++ [l]) ++ b) := by simpa using g
      refine ih h' g' x ?_
      rw [encL_append]
      simpa [encL] using hx
theorem places_ok {n : List UInt8} {x : Nat} (h : x ∈ placesN n) : OkPos n x := by
  unfold placesN labsD at h
  cases e : labs n with
  | none => rw [e] at h; simp [posOf] at h
  | some ls =>
    obtain ⟨en, g, _⟩ := labs_iff.1 e
    rw [e] at h
    exact places_ok_at (a := []) en g x h
theorem places_length (n : List UInt8) : (placesN n).length = (labsD n).length := by
  unfold placesN; exact posOf_length _ _
theorem lab_get {n : List UInt8} {i : Nat} (h : i < (placesN n).length) : labAt n (placesN n)[i] = (labsD n)[i]'(by rw [← places_length]; exact h) := by
  have := labAt_placesN n
  have h2 : ((placesN n).map (labAt n))[i]? = (labsD n)[i]? := by rw [this]
  rw [List.getElem?_map, List.getElem?_eq_getElem h, List.getElem?_eq_getElem (by rw [← places_length]; exact h)] at h2
  exact Option.some.inj h2
theorem labsD_len (n : List UInt8) : (labsD n).length ≤ 255 := by
  by_cases h : labsD n = []
  · rw [h]; simp
  · obtain ⟨e, _, hl, _⟩ := labsD_made h
    have h1 : n.length = encL (labsD n) + 1 := by
      have := made_length (labsD n)
      rw [← e] at this
      exact this
    have h2 := length_le_encL (ls := labsD n)
    omega

theorem labsD_good (n : List UInt8) : good (labsD n) := by
  by_cases h : labsD n = []
  · rw [h]; intro l hl; cases hl
  · exact (labsD_made h).2.1

/-- Label by label from the last one on. -/
def lessR : List (List UInt8) → List (List UInt8) → Bool
  | x :: xs, y :: ys => if cmpN x y ≠ 0 then decide (cmpN x y < 0) else lessR xs ys
  | [], _ :: _ => true
  | _, [] => false
def less (a b : List UInt8) : Bool := valid a && valid b && lessR (labsD a).reverse (labsD b).reverse
theorem take_rev {l : List (List UInt8)} {i : Nat} (h : i < l.length) : (l.take (i + 1)).reverse = l[i] :: (l.take i).reverse := by
  rw [List.take_succ_eq_append_getElem h, List.reverse_append]; rfl

end Go.Proofs.YtagjjpmhacknpaaDoor.Nm
