/- 3 texts put together: Api, Vw, Awk. -/
import Derived.Test.YtagjjpmhacknpaaDoorJB10
import Derived.Test.YtagjjpmhacknpaaDoorJB11
import Derived.Test.YtagjjpmhacknpaaDoorJB12
/- The package's functions over an arena that holds these blocks. -/
set_option maxRecDepth 100000
namespace Go.Proofs.YtagjjpmhacknpaaDoor
open Go.RowKit Go.Shelf
/-- A is an arena of so many bytes that holds these blocks. -/
def Hold (A B : Nat) (bs : List Ar.Pc) (f : Nat → Prop) (w : World) : Prop := ∃ L S pcs, ArE A L S f w ∧ Ar.Inv S pcs ∧ Ar.blocks pcs = bs ∧ S.mem.length = B
/-- A call has left it so. -/
structure Left_ (A B : Nat) (bs : List Ar.Pc) (f : Nat → Prop) (w w' : World) : Prop where
  trn : Trn f w w'
  hold : Hold A B bs (grow f w w') w'
theorem Left_.mk' {A B : Nat} {bs : List Ar.Pc} {f : Nat → Prop} {w w' : World} {L : Loc} {S : Ar.St} {pcs : List Ar.Pc} (h : Ars A L S f w w') (I : Ar.Inv S pcs) (hb : Ar.blocks pcs = bs) (hm : S.mem.length = B) : Left_ A B bs f w w' := ⟨h.trn, L, S, pcs, h.ar, I, hb, hm⟩
theorem Left_.below {A B : Nat} {bs : List Ar.Pc} {f : Nat → Prop} {w w' : World} (h : Hold A B bs f w) (hb : Below w.heap.size w w') : Left_ A B bs f w w' := by
  obtain ⟨L, S, pcs, a, I, e, m⟩ := h
  exact .mk' ((Ars.start a).below hb) I e m
/-- The block of a handle, among these. -/
theorem Ar.Inv.place {S : Ar.St} {pcs : List Ar.Pc} (I : Ar.Inv S pcs) (h : Int) : (Ar.PlaceOf S h = none ∧ ∀ q ∈ Ar.blocks pcs, (q.owner : Int) ≠ h) ∨ ∃ v q xs ys, Ar.PlaceOf S h = some v ∧ pcs = xs ++ q :: ys ∧ Ar.total xs = v ∧ q.free = false ∧ (q.owner : Int) = h ∧ q.Ok ∧ (Ar.headAt S.mem v).size = q.size ∧ v + 8 + q.data.length ≤ S.mem.length := by
  cases hp : Ar.PlaceOf S h with
  | none =>
    refine .inl ⟨rfl, fun q hq e => ?_⟩
    obtain ⟨q1, q2⟩ := Ar.mem_blocks.1 hq
    obtain ⟨v, hv⟩ := Ar.at_of_mem q1
    have := (I.hn q.owner v).2 ⟨q, hv, q2, rfl⟩
    rw [e, hp] at this
    cases this
  | some v =>
    obtain ⟨xs, q, ys, k, rfl, rfl, hf, hk, hz, _⟩ := I.block_pos hp
    obtain ⟨⟨a, ha⟩, hl⟩ := I.head (Ar.at_mid xs ys q)
    refine .inr ⟨_, q, xs, ys, rfl, rfl, rfl, hf, by rw [hk, hz], I.ok q (by simp), by rw [ha]; rfl, ?_⟩
    unfold Ar.Pc.takes at hl
    omega
theorem data_ge {q : Ar.Pc} (hq : q.Ok) (hf : q.free = false) : q.size ≤ q.data.length ∧ 8 ≤ q.data.length ∧ q.size ≤ 4096 := by
  obtain ⟨h1, h2⟩ := hq.bl hf
  have h3 := Ar.cost_ge q.size h1
  have h4 := hq.ge
  unfold Ar.Pc.takes at h2 h4
  omega
def AllocOk (A B : Nat) (bs : List Ar.Pc) (n : Int) (f : Nat → Prop) (w : World) (e : Ending) (w' : World) : Prop :=
  (Ar.costI n = 0 ∧ e = .returned (.tuple #[.int .i64 0, .int .i64 3]) ∧ w = w') ∨ (Ar.costI n ≠ 0 ∧ B - Ar.sumT bs < Ar.costI n ∧ e = .returned (.tuple #[.int .i64 0, .int .i64 4]) ∧ w = w') ∨
  (Ar.costI n ≠ 0 ∧ Ar.costI n ≤ B - Ar.sumT bs ∧ ∃ (h : Nat) (B1 B2 : List Ar.Pc) (b : Ar.Pc), e = .returned (.tuple #[.int .i64 (h : Int), .int .i64 0]) ∧ bs = B1 ++ B2 ∧ Left_ A B (B1 ++ b :: B2) f w w' ∧ (b.size : Int) = n ∧ IsNew b h b.size ∧ 1 ≤ h ∧ (∀ q ∈ bs, q.owner ≠ h) ∧ ∀ j, 1 ≤ j → j < h → ∃ q ∈ bs, q.owner = j)
theorem alloc_api (A B : Nat) (bs : List Ar.Pc) (f : Nat → Prop) (n : Int) (w : World) (hH : Hold A B bs f w) (hT : TabOk w) (hG : ¬ f 0) :
    Calls Tryd.prog 8 #[.pointer (some ⟨A, 0, none⟩), .int .i64 n] w (AllocOk A B bs n f w) := by
  obtain ⟨L, S, pcs, a, I, rfl, rfl⟩ := hH
  by_cases h0 : Ar.costI n = 0
  · exact (alloc_big _ n w h0).mono fun e w' h => .inl ⟨h0, h⟩
  · have hr : 0 ≤ n ∧ n ≤ 4096 := by
      unfold Ar.costI at h0
      by_cases h : 0 ≤ n ∧ n ≤ 4096
      · exact h
      · rw [if_neg h] at h0; exact absurd rfl h0
    obtain ⟨k, rfl⟩ : ∃ k : Nat, n = (k : Int) := ⟨n.toNat, by omega⟩
    have hk : k ≤ 4096 := by omega
    have hc : Ar.costI (k : Int) = Ar.cost k := by unfold Ar.costI; rw [if_pos hr, Int.toNat_natCast]
    have hu := I.used
    by_cases hl : S.mem.length - S.used < Ar.cost k
    · exact (alloc_full A L S f k _ w a I.sane hk rfl hl).mono fun e w' h => .inr (.inl ⟨h0, by rw [hc, ← hu]; exact hl, h⟩)
    · refine (alloc_any A L S pcs f k _ w a I hk rfl (by omega) hT hG).mono fun e w' h => .inr (.inr ?_)
      obtain ⟨h, L', S', pcs', B1, B2, b, he, hA, hI, hm, e1, e2, hN, g1, g2, g3⟩ := h
      exact ⟨h0, by rw [hc, ← hu]; omega, h, B1, B2, b, he, e1, .mk' hA hI e2 hm, by rw [hN.size], ⟨hN.free, hN.own, rfl, by rw [hN.size]; exact hN.zero⟩, g1, g2, g3⟩
set_option maxHeartbeats 1000000 in
theorem free_none (v : Value) (h : Int) (w : World) (hb : Calls Tryd.prog 31 #[v, .int .i64 h] w fun e w' => e = .returned (.tuple #[.int .i64 0, .bool false]) ∧ ∃ n, w' = w.drewN n) :
    Calls Tryd.prog 10 #[v, .int .i64 h] w fun e w' => e = .returned (.int .i64 5) ∧ ∃ n, w' = w.drewN n := by
  have HB := Lib.hid hb
  clear hb
  go_enter Tryd.func10, Tryd.ntmps10
  go_wp2_with (go_at_call 31; (refine HB.out.mono ?_); rintro e w' ⟨rfl, n, rfl⟩)
  go_ret
  exact ⟨rfl, _, rfl⟩
def FreeOk (A B : Nat) (bs : List Ar.Pc) (h : Int) (f : Nat → Prop) (w : World) (e : Ending) (w' : World) : Prop :=
  ((∀ q ∈ bs, (q.owner : Int) ≠ h) ∧ e = .returned (.int .i64 5) ∧ Below w.heap.size w w') ∨ (∃ B1 q B2, bs = B1 ++ q :: B2 ∧ (q.owner : Int) = h ∧ e = .returned (.int .i64 0) ∧ Left_ A B (B1 ++ B2) f w w')
theorem free_api (A B : Nat) (bs : List Ar.Pc) (f : Nat → Prop) (h : Int) (w : World) (hH : Hold A B bs f w) :
    Calls Tryd.prog 10 #[.pointer (some ⟨A, 0, none⟩), .int .i64 h] w (FreeOk A B bs h f w) := by
  obtain ⟨L, S, pcs, a, I, rfl, rfl⟩ := hH
  rcases I.place h with ⟨h1, h2⟩ | ⟨v, q, xs, ys, h1, _⟩
  · exact (free_none _ h w (block_none A L S f h w a I.sane h1)).mono fun e w' ⟨he, n, hw⟩ => .inl ⟨h2, he, by rw [hw]; exact below_dr w n⟩
  · refine (free_any A L S pcs f h v w a I h1).mono fun e w' ⟨he, L', S', pcs', B1, B2, p, hA, hI, hm, e1, e2, e3⟩ => .inr ⟨B1, p, B2, e1, e3, he, .mk' hA hI e2 hm⟩
def SizeOk (bs : List Ar.Pc) (h : Int) (w : World) (e : Ending) (w' : World) : Prop :=
  Below w.heap.size w w' ∧ (((∀ q ∈ bs, (q.owner : Int) ≠ h) ∧ e = .returned (.tuple #[.int .i64 0, .bool false])) ∨ ∃ q ∈ bs, (q.owner : Int) = h ∧ e = .returned (.tuple #[.int .i64 (q.size : Int), .bool true]))
theorem size_api (A B : Nat) (bs : List Ar.Pc) (f : Nat → Prop) (h : Int) (w : World) (hH : Hold A B bs f w) :
    Calls Tryd.prog 19 #[.pointer (some ⟨A, 0, none⟩), .int .i64 h] w (SizeOk bs h w) := by
  obtain ⟨L, S, pcs, a, I, rfl, rfl⟩ := hH
  rcases I.place h with ⟨h1, h2⟩ | ⟨v, q, xs, ys, h1, rfl, rfl, hf, ho, hok, hsz, hlen⟩
  · exact (size_none A L S f h w a I.sane h1).mono fun e w' ⟨he, n, hw⟩ => ⟨by rw [hw]; exact below_dr w n, .inl ⟨h2, he⟩⟩
  · exact (size_some A L S f h _ _ w a I.sane h1 (by omega) rfl).mono fun e w' ⟨he, hb⟩ => ⟨hb, .inr ⟨q, Ar.mem_blocks.2 ⟨by simp, hf⟩, ho, by rw [he, hsz]⟩⟩
theorem used_api (A B : Nat) (bs : List Ar.Pc) (f : Nat → Prop) (w : World) (hH : Hold A B bs f w) : Calls Tryd.prog 21 #[.pointer (some ⟨A, 0, none⟩)] w fun e w' => e = .returned (.int .i64 (Ar.sumT bs : Int)) ∧ w = w' := by
  obtain ⟨L, S, pcs, a, I, rfl, rfl⟩ := hH
  rw [← I.used]
  exact used_any A L S f w a
theorem left_api (A B : Nat) (bs : List Ar.Pc) (f : Nat → Prop) (w : World) (hH : Hold A B bs f w) : Calls Tryd.prog 22 #[.pointer (some ⟨A, 0, none⟩)] w fun e w' => e = .returned (.int .i64 ((B - Ar.sumT bs : Nat) : Int)) ∧ w = w' := by
  obtain ⟨L, S, pcs, a, I, rfl, rfl⟩ := hH
  rw [← I.used]
  exact left_any A L S f w a I.sane.mem I.sane.used
theorem compact_api (A B : Nat) (bs : List Ar.Pc) (f : Nat → Prop) (w : World) (hH : Hold A B bs f w) : Calls Tryd.prog 16 #[.pointer (some ⟨A, 0, none⟩)] w fun e w' => e = .returned (.int .i64 ((B - Ar.sumT bs : Nat) : Int)) ∧ Left_ A B bs f w w' := by
  obtain ⟨L, S, pcs, a, I, rfl, rfl⟩ := hH
  rw [← I.used]
  exact (compact_any A L S pcs f w a I).mono fun e w' ⟨he, L', S', pcs', hA, hI, e1, hm⟩ => ⟨he, .mk' hA hI e1 hm⟩
def ReadOk (bs : List Ar.Pc) (h at_ n : Int) (w : World) (e : Ending) (w' : World) : Prop :=
  Below w.heap.size w w' ∧ (((∀ q ∈ bs, (q.owner : Int) ≠ h) ∧ e = .returned (.tuple #[.slice none 0 0, .int .i64 5])) ∨ ∃ q ∈ bs, (q.owner : Int) = h ∧
    ((¬ Within q.size at_ n ∧ e = .returned (.tuple #[.slice none 0 0, .int .i64 1])) ∨ (Within q.size at_ n ∧ ∃ v l, l = (q.data.drop at_.toNat).take n.toNat ∧ e = .returned (.tuple #[v, .int .i64 0]) ∧ w'.ownsRow w.heap.size 5 1 v l.length (l.map encB))))
theorem read_api (A B : Nat) (bs : List Ar.Pc) (f : Nat → Prop) (h at_ n : Int) (w : World) (hH : Hold A B bs f w)
    (hI1 : -9223372036854775808 ≤ at_) (hI2 : at_ ≤ 9223372036854775807) (hI3 : -9223372036854775808 ≤ n) (hI4 : n ≤ 9223372036854775807) :
    Calls Tryd.prog 12 #[.pointer (some ⟨A, 0, none⟩), .int .i64 h, .int .i64 at_, .int .i64 n] w (ReadOk bs h at_ n w) := by
  obtain ⟨L, S, pcs, a, I, rfl, rfl⟩ := hH
  rcases I.place h with ⟨h1, h2⟩ | ⟨v, q, xs, ys, h1, rfl, rfl, hf, ho, hok, hsz, hlen⟩
  · exact (read_err _ h at_ n 5 w ((span_none A L S f h at_ n w a I.sane h1).mono fun e w' ⟨he, k, hw⟩ => ⟨he, by rw [hw]; exact below_dr w k⟩)).mono fun e w' ⟨he, hb⟩ => ⟨hb, .inl ⟨h2, he⟩⟩
  · have hq : q ∈ Ar.blocks (xs ++ q :: ys) := Ar.mem_blocks.2 ⟨by simp, hf⟩
    obtain ⟨d1, d2, d3⟩ := data_ge hok hf
    by_cases hw : Within q.size at_ n
    · obtain ⟨w1, w2, w3, w4⟩ := id hw
      obtain ⟨i, rfl⟩ : ∃ i : Nat, at_ = (i : Int) := ⟨at_.toNat, by omega⟩
      obtain ⟨m, rfl⟩ : ∃ m : Nat, n = (m : Int) := ⟨n.toNat, by omega⟩
      have hg := read_good A L S f h i m _ _ w a I.sane h1 hsz (by omega) (by omega) (by omega)
      rw [I.bytes i m (by omega)] at hg
      exact hg.mono fun e w' ⟨v, he, hr, hb⟩ => ⟨hb, .inr ⟨q, hq, ho, .inr ⟨hw, v, _, by simp only [Int.toNat_natCast], he, hr⟩⟩⟩
    · exact (read_err _ h at_ n 1 w (span_bad A L S f h at_ n _ _ w a I.sane h1 hsz (by omega) (by omega) hw hI1 hI2 hI3 hI4)).mono fun e w' ⟨he, hb⟩ => ⟨hb, .inr ⟨q, hq, ho, .inl ⟨hw, he⟩⟩⟩
def WriteOk (A B : Nat) (bs : List Ar.Pc) (h at_ : Int) (l : List UInt8) (f : Nat → Prop) (w : World) (e : Ending) (w' : World) : Prop :=
  ((∀ q ∈ bs, (q.owner : Int) ≠ h) ∧ e = .returned (.int .i64 5) ∧ Below w.heap.size w w') ∨ ∃ B1 q B2, bs = B1 ++ q :: B2 ∧ (q.owner : Int) = h ∧
    ((¬ Within q.size at_ l.length ∧ e = .returned (.int .i64 1) ∧ Below w.heap.size w w') ∨ (Within q.size at_ l.length ∧ e = .returned (.int .i64 0) ∧ Left_ A B (B1 ++ { q with data := Ar.put q.data at_.toNat l } :: B2) f w w'))
theorem write_api (A B : Nat) (bs : List Ar.Pc) (f : Nat → Prop) (h at_ : Int) (b : Value) (l : List UInt8) (w : World) (hH : Hold A B bs f w) (hb : RdB b l w) (hl : l.length ≤ 1048576)
    (hI1 : -9223372036854775808 ≤ at_) (hI2 : at_ ≤ 9223372036854775807) :
    Calls Tryd.prog 14 #[.pointer (some ⟨A, 0, none⟩), .int .i64 h, .int .i64 at_, b] w (WriteOk A B bs h at_ l f w) := by
  obtain ⟨L, S, pcs, a, I, rfl, rfl⟩ := hH
  rcases I.place h with ⟨h1, h2⟩ | ⟨v, q, xs, ys, h1, rfl, rfl, hf, ho, hok, hsz, hlen⟩
  · exact (write_err _ b l h at_ 5 w hb hl ((span_none A L S f h at_ _ w a I.sane h1).mono fun e w' ⟨he, k, hw⟩ => ⟨he, by rw [hw]; exact below_dr w k⟩)).mono fun e w' ⟨he, hb⟩ => .inl ⟨h2, he, hb⟩
  · have hbl : Ar.blocks (xs ++ q :: ys) = Ar.blocks xs ++ q :: Ar.blocks ys := by rw [Ar.blocks_app, Ar.blocks_block ys hf]
    obtain ⟨d1, d2, d3⟩ := data_ge hok hf
    by_cases hw : Within q.size at_ l.length
    · obtain ⟨w1, w2, w3, w4⟩ := id hw
      obtain ⟨i, rfl⟩ : ∃ i : Nat, at_ = (i : Int) := ⟨at_.toNat, by omega⟩
      have hg := write_good A L S f h i b l _ _ w a I.sane hb h1 hsz (by omega) (by omega) (by omega)
      have hput := I.put_ i l (by omega)
      have hdl := Ar.put_len q.data i l (by omega)
      have hinv := I.data hf (Ar.put q.data i l) hdl
      rw [hput] at hg
      refine hg.mono fun e w' ⟨he, hA⟩ => .inr ⟨_, q, _, hbl, ho, .inr ⟨hw, he, ?_⟩⟩
      rw [Int.toNat_natCast]
      refine .mk' hA hinv (by rw [Ar.blocks_app, Ar.blocks_block (p := { q with data := Ar.put q.data i l }) ys hf]) ?_
      show (Ar.put _ _ _).length = _
      rw [Ar.put_len _ _ _ (by rw [hdl]; omega)]
    · exact (write_err _ b l h at_ 1 w hb hl (span_bad A L S f h at_ _ _ _ w a I.sane h1 hsz (by omega) (by omega) hw hI1 hI2 (by omega) (by omega))).mono fun e w' ⟨he, hb⟩ => .inr ⟨_, q, _, hbl, ho, .inl ⟨hw, he, hb⟩⟩
def NewOk (B : Nat) (w : World) (e : Ending) (w' : World) : Prop := ∃ A, e = .returned (.tuple #[.pointer (some ⟨A, 0, none⟩), .int .i64 0]) ∧ Hold A B [] (fun j => w.heap.size ≤ j ∧ j < w'.heap.size) w' ∧ Below w.heap.size w w'
theorem new_api (B : Nat) (w : World) (h1 : 1024 ≤ B) (h2 : B ≤ 1048576) : Calls Tryd.prog 6 #[.int .i64 (B : Int)] w (NewOk B w) := by
  obtain ⟨pcs, hI, hb, hm⟩ := Ar.new_inv B h1 h2
  exact (new_any B w h1 h2).mono fun e w' ⟨A, L, he, hA, hbl⟩ => ⟨A, he, ⟨L, _, pcs, hA, hI, hb, hm⟩, hbl⟩
end Go.Proofs.YtagjjpmhacknpaaDoor

/- An arena as its blocks by handle: (handle, bytes), rising. -/
set_option maxRecDepth 100000
namespace Go.Proofs.YtagjjpmhacknpaaDoor
open Go.RowKit Go.Shelf
/-- A block: its handle and its bytes. -/
abbrev Bl := Nat × List UInt8
def prB (q : Ar.Pc) : Bl := (q.owner, q.data.take q.size)
def sumC (L : List Bl) : Nat := (L.map fun x => Ar.cost x.2.length).sum
theorem sumC_nil : sumC [] = 0 := rfl
theorem sumC_cons (x : Bl) (L : List Bl) : sumC (x :: L) = Ar.cost x.2.length + sumC L := by simp [sumC]
theorem sumC_app (L M : List Bl) : sumC (L ++ M) = sumC L + sumC M := by simp [sumC]
structure Vw (L : List Bl) (bs : List Ar.Pc) : Prop where
  srt : L.Pairwise (fun x y => x.1 < y.1)
  pos : ∀ x ∈ L, 1 ≤ x.1
  perm : L.Perm (bs.map prB)
  ok : ∀ q ∈ bs, q.Ok ∧ q.free = false
theorem Vw.nil : Vw [] [] := ⟨List.Pairwise.nil, (fun _ h => by cases h), List.Perm.refl _, (fun _ h => by cases h)⟩
theorem blk_len {q : Ar.Pc} (h : q.Ok ∧ q.free = false) : (q.data.take q.size).length = q.size ∧ q.takes = Ar.cost q.size ∧ q.size ≤ 4096 := by
  obtain ⟨h1, h2⟩ := h.1.bl h.2
  obtain ⟨h3, _, _⟩ := data_ge h.1 h.2
  exact ⟨by rw [List.length_take]; omega, h2.symm, h1⟩
theorem Vw.sum {L : List Bl} {bs : List Ar.Pc} (h : Vw L bs) : Ar.sumT bs = sumC L := by
  have h1 : sumC L = sumC (bs.map prB) := by unfold sumC; exact (h.perm.map _).sum_nat
  rw [h1]
  unfold sumC Ar.sumT
  rw [List.map_map]
  congr 1
  refine List.map_congr_left fun q hq => ?_
  obtain ⟨k1, k2, _⟩ := blk_len (h.ok q hq)
  show q.takes = Ar.cost (q.data.take q.size).length
  rw [k1, k2]
theorem Vw.none {L : List Bl} {bs : List Ar.Pc} (h : Vw L bs) {z : Int} : (∀ q ∈ bs, (q.owner : Int) ≠ z) ↔ ∀ x ∈ L, (x.1 : Int) ≠ z := by
  constructor
  · intro k x hx
    obtain ⟨q, hq, rfl⟩ := List.mem_map.1 (h.perm.mem_iff.1 hx)
    exact k q hq
  · intro k q hq
    exact k (prB q) (h.perm.mem_iff.2 (List.mem_map.2 ⟨q, hq, rfl⟩))
theorem Vw.at_ {L : List Bl} {bs : List Ar.Pc} (h : Vw L bs) {q : Ar.Pc} (hq : q ∈ bs) : ∃ L1 L2, L = L1 ++ prB q :: L2 :=
  List.append_of_mem (h.perm.mem_iff.2 (List.mem_map.2 ⟨q, hq, rfl⟩))
theorem Vw.drop {L1 L2 : List Bl} {B1 B2 : List Ar.Pc} {q : Ar.Pc} (h : Vw (L1 ++ prB q :: L2) (B1 ++ q :: B2)) : Vw (L1 ++ L2) (B1 ++ B2) := by
  refine ⟨?_, fun x hx => h.pos x ?_, ?_, fun p hp => h.ok p ?_⟩
  · exact h.srt.sublist (by simp)
  · rcases List.mem_append.1 hx with h | h <;> simp [h]
  · have := h.perm
    rw [List.map_append, List.map_cons] at this
    rw [List.map_append]
    exact (List.perm_cons (prB q)).1 ((List.perm_middle.symm.trans this).trans List.perm_middle)
  · rcases List.mem_append.1 hp with h | h <;> simp [h]
theorem Vw.swap {L1 L2 : List Bl} {B1 B2 : List Ar.Pc} {q q' : Ar.Pc} (h : Vw (L1 ++ prB q :: L2) (B1 ++ q :: B2)) (ho : q'.owner = q.owner) (hk : q'.Ok ∧ q'.free = false) : Vw (L1 ++ prB q' :: L2) (B1 ++ q' :: B2) := by
  have hd := h.drop
  refine ⟨?_, fun x hx => ?_, ?_, fun p hp => ?_⟩
  · have := h.srt
    rw [List.pairwise_append, List.pairwise_cons] at this ⊢
    obtain ⟨a, ⟨b, c⟩, d⟩ := this
    refine ⟨a, ⟨fun y hy => ?_, c⟩, fun x hx y hy => ?_⟩
    · have := b y hy
      show q'.owner < y.1
      rw [ho]; exact this
    · rcases List.mem_cons.1 hy with rfl | hy
      · have := d x hx (prB q) (by simp)
        show x.1 < q'.owner
        rw [ho]; exact this
      · exact d x hx y (List.mem_cons_of_mem _ hy)
  · rcases List.mem_append.1 hx with hx | hx
    · exact h.pos x (by simp [hx])
    · rcases List.mem_cons.1 hx with rfl | hx
      · have := h.pos (prB q) (by simp)
        show 1 ≤ q'.owner
        rw [ho]; exact this
      · exact h.pos x (by simp [hx])
  · rw [List.map_append, List.map_cons]
    have := hd.perm
    rw [List.map_append] at this
    exact List.perm_middle.trans ((this.cons (prB q')).trans List.perm_middle.symm)
  · rcases List.mem_append.1 hp with hp | hp
    · exact h.ok p (by simp [hp])
    · rcases List.mem_cons.1 hp with rfl | hp
      · exact hk
      · exact h.ok p (by simp [hp])
/-- The first ones are one behind the other, and the next one is not next. -/
def Least (L1 L2 : List Bl) : Prop := (∀ i (h : i < L1.length), L1[i].1 = i + 1) ∧ ∀ x ∈ L2, L1.length + 1 < x.1
theorem least_cut : ∀ (L : List Bl) (s h : Nat), L.Pairwise (fun x y => x.1 < y.1) → (∀ x ∈ L, s + 1 ≤ x.1) → s + 1 ≤ h → (∀ x ∈ L, x.1 ≠ h) → (∀ j, s + 1 ≤ j → j < h → ∃ x ∈ L, x.1 = j) →
    ∃ L1 L2, L = L1 ++ L2 ∧ (∀ i (h : i < L1.length), L1[i].1 = s + i + 1) ∧ (∀ x ∈ L2, h < x.1) ∧ h = s + L1.length + 1
  | [], s, h, _, _, h1, _, h3 => by
    refine ⟨[], [], rfl, (fun i hi => by cases hi), (fun x hx => by cases hx), ?_⟩
    apply Classical.byContradiction
    intro hne
    obtain ⟨x, hx, _⟩ := h3 (s + 1) (by omega) (by simp at hne; omega)
    cases hx
  | y :: L, s, h, hp, hs, h1, h2, h3 => by
    rw [List.pairwise_cons] at hp
    obtain ⟨p1, p2⟩ := hp
    by_cases he : h = s + 1
    · refine ⟨[], y :: L, rfl, (fun i hi => by cases hi), (fun x hx => ?_), by simp [he]⟩
      have := hs x hx
      have := h2 x hx
      omega
    · have hy : y.1 = s + 1 := by
        obtain ⟨x, hx, e⟩ := h3 (s + 1) (by omega) (by omega)
        rcases List.mem_cons.1 hx with rfl | hx
        · exact e
        · have := p1 x hx
          have := hs y (by simp)
          omega
      obtain ⟨L1, L2, e1, e2, e3, e4⟩ := least_cut L (s + 1) h p2 (fun x hx => by have := p1 x hx; omega) (by omega) (fun x hx => h2 x (List.mem_cons_of_mem _ hx)) (fun j hj1 hj2 => by
        obtain ⟨x, hx, e⟩ := h3 j (by omega) hj2
        rcases List.mem_cons.1 hx with rfl | hx
        · omega
        · exact ⟨x, hx, e⟩)
      refine ⟨y :: L1, L2, by rw [e1]; rfl, fun i hi => ?_, e3, by rw [e4, List.length_cons]; omega⟩
      cases i with
      | zero => simpa using hy
      | succ i => rw [List.getElem_cons_succ, e2]; omega
theorem Vw.add {L : List Bl} {B1 B2 : List Ar.Pc} {b : Ar.Pc} {h : Nat} (hv : Vw L (B1 ++ B2)) (hN : IsNew b h b.size) (hb : b.Ok) (h1 : 1 ≤ h) (h2 : ∀ q ∈ B1 ++ B2, q.owner ≠ h) (h3 : ∀ j, 1 ≤ j → j < h → ∃ q ∈ B1 ++ B2, q.owner = j) :
    ∃ L1 L2, L = L1 ++ L2 ∧ Least L1 L2 ∧ h = L1.length + 1 ∧ Vw (L1 ++ (h, Ar.zeros b.size) :: L2) (B1 ++ b :: B2) := by
  have hm : ∀ x ∈ L, ∃ q ∈ B1 ++ B2, q.owner = x.1 := fun x hx => by
    obtain ⟨q, hq, rfl⟩ := List.mem_map.1 (hv.perm.mem_iff.1 hx)
    exact ⟨q, hq, rfl⟩
  obtain ⟨L1, L2, rfl, e2, e3, e4⟩ := least_cut L 0 h hv.srt (fun x hx => by have := hv.pos x hx; omega) (by omega) (fun x hx e => by
    obtain ⟨q, hq, e'⟩ := hm x hx
    exact h2 q hq (e'.trans e)) (fun j j1 j2 => by
    obtain ⟨q, hq, e⟩ := h3 j (by omega) j2
    exact ⟨prB q, hv.perm.mem_iff.2 (List.mem_map.2 ⟨q, hq, rfl⟩), e⟩)
  have hpr : prB b = (h, Ar.zeros b.size) := by unfold prB; rw [hN.own, hN.zero]
  refine ⟨L1, L2, rfl, ⟨(fun i hi => by rw [e2 i hi]; omega), (fun x hx => by have := e3 x hx; omega)⟩, by omega, ?_⟩
  rw [← hpr]
  refine ⟨?_, fun x hx => ?_, ?_, fun p hp => ?_⟩
  · have := hv.srt
    rw [List.pairwise_append] at this
    rw [List.pairwise_append, List.pairwise_cons]
    obtain ⟨a, c, d⟩ := this
    have ho : (prB b).1 = h := by rw [hpr]
    refine ⟨a, ⟨(fun y hy => by rw [ho]; exact e3 y hy), c⟩, fun x hx y hy => ?_⟩
    rcases List.mem_cons.1 hy with rfl | hy
    · obtain ⟨i, hi, rfl⟩ := List.mem_iff_getElem.1 hx
      rw [ho, e2 i hi]; omega
    · exact d x hx y hy
  · rcases List.mem_append.1 hx with hx | hx
    · exact hv.pos x (by simp [hx])
    · rcases List.mem_cons.1 hx with rfl | hx
      · rw [hpr]; exact h1
      · exact hv.pos x (by simp [hx])
  · rw [List.map_append, List.map_cons]
    have := hv.perm
    rw [List.map_append] at this
    exact List.perm_middle.trans ((this.cons (prB b)).trans List.perm_middle.symm)
  · rcases List.mem_append.1 hp with hp | hp
    · exact hv.ok p (by simp [hp])
    · rcases List.mem_cons.1 hp with rfl | hp
      · exact ⟨hb, hN.free⟩
      · exact hv.ok p (by simp [hp])
theorem put_take (d l : List UInt8) (at_ n : Nat) (h : at_ + l.length ≤ n) (hn : n ≤ d.length) : (Ar.put d at_ l).take n = Ar.put (d.take n) at_ l := by
  unfold Ar.put
  rw [List.take_take, Nat.min_eq_left (by omega), List.take_append, List.drop_take]
  have h1 : (d.take at_ ++ l).length = at_ + l.length := by simp; omega
  rw [h1, List.take_of_length_le (by rw [h1]; omega)]
theorem take_drop_take (d : List UInt8) (at_ k n : Nat) (h : at_ + k ≤ n) : (d.drop at_).take k = ((d.take n).drop at_).take k := by
  rw [List.drop_take, List.take_take, Nat.min_eq_left (by omega)]
/-- A handle stands in the rising list once. -/
theorem srt_uniq {L1 L2 M1 M2 : List Bl} {x y : Bl} (h : (L1 ++ x :: L2).Pairwise (fun x y => x.1 < y.1)) (e : L1 ++ x :: L2 = M1 ++ y :: M2) (hxy : x.1 = y.1) : L1 = M1 ∧ x = y ∧ L2 = M2 := by
  have hlen : L1.length = M1.length := by
    have h2 := h
    rw [List.pairwise_iff_getElem] at h2
    have ex : (L1 ++ x :: L2)[L1.length]? = some x := by simp
    have ey : (L1 ++ x :: L2)[M1.length]? = some y := by rw [e]; simp
    obtain ⟨ix, gx⟩ := List.getElem?_eq_some_iff.1 ex
    obtain ⟨iy, gy⟩ := List.getElem?_eq_some_iff.1 ey
    rcases Nat.lt_trichotomy L1.length M1.length with hlt | heq | hgt
    · have := h2 _ _ ix iy hlt
      rw [gx, gy] at this; omega
    · exact heq
    · have := h2 _ _ iy ix hgt
      rw [gx, gy] at this; omega
  obtain ⟨e1, e2⟩ := List.append_inj e hlen
  exact ⟨e1, (List.cons.inj e2).1, (List.cons.inj e2).2⟩
end Go.Proofs.YtagjjpmhacknpaaDoor

/- awake: what the document fixes. -/
set_option maxRecDepth 100000
namespace Go.Proofs.YtagjjpmhacknpaaDoor
open Go.RowKit Go.Shelf
/-- An arena whose memory lies from n0 on. -/
def HoldA (A B : Nat) (bs : List Ar.Pc) (n0 : Nat) (w : World) : Prop := Hold A B bs (fun j => n0 ≤ j ∧ j < w.heap.size) w ∧ n0 ≤ w.heap.size
theorem HoldA.left {A B : Nat} {bs bs' : List Ar.Pc} {n0 : Nat} {w w' : World} (h : HoldA A B bs n0 w) (k : Left_ A B bs' (fun j => n0 ≤ j ∧ j < w.heap.size) w w') : HoldA A B bs' n0 w' ∧ Below n0 w w' := by
  obtain ⟨L, S, pcs, a, I, e, m⟩ := k.hold
  have hs := k.trn.size
  have h2 := h.2
  exact ⟨⟨⟨L, S, pcs, a.wide (fun j e => e.elim (fun e => ⟨e.1, Nat.lt_of_lt_of_le e.2 hs⟩) (fun e => ⟨Nat.le_trans h2 e.1, e.2⟩)) (fun j e => e.2), I, e, m⟩, Nat.le_trans h2 hs⟩, k.trn.below (fun j e => e.1) h2⟩
theorem HoldA.below {A B : Nat} {bs : List Ar.Pc} {n0 : Nat} {w w' : World} (h : HoldA A B bs n0 w) (hb : Below w.heap.size w w') : HoldA A B bs n0 w' := (h.left (Left_.below h.1 hb)).1
theorem TabOk.below {n0 : Nat} {w w' : World} (h : TabOk w) (hn : 0 < n0) (hb : Below n0 w w') : TabOk w' :=
  fun j hj => (World.cell?_of_block (a := ⟨0, j, none⟩) (hb.block _ hn)).trans (h j hj)
theorem aw_alloc (A n0 : Nat) (w : World) (h : HoldA A 1024 [] n0 w) (hT : TabOk w) (hn : 0 < n0) :
    Calls Tryd.prog 8 #[.pointer (some ⟨A, 0, none⟩), .int .i64 9] w fun e w' => e = .returned (.tuple #[.int .i64 1, .int .i64 0]) ∧ (∃ b, HoldA A 1024 [b] n0 w' ∧ IsNew b 1 9) ∧ Below n0 w w' := by
  refine (alloc_api A 1024 [] _ 9 w h.1 hT (fun e => by omega)).mono fun e w' hk => ?_
  rcases hk with ⟨h1, _⟩ | ⟨_, h1, _⟩ | ⟨_, _, i, B1, B2, b, he, e1, hL, hz, hN, g1, _, g3⟩
  · exact absurd h1 (by decide)
  · exact absurd h1 (by decide)
  · obtain ⟨rfl, rfl⟩ := List.append_eq_nil_iff.1 e1.symm
    have hi : i = 1 := by
      apply Classical.byContradiction
      intro hne
      obtain ⟨q, hq, _⟩ := g3 1 (Nat.le_refl _) (by omega)
      cases hq
    subst hi
    have hz9 : b.size = 9 := by omega
    rw [hz9] at hN
    obtain ⟨k1, k2⟩ := h.left hL
    exact ⟨he, ⟨b, k1, hN⟩, k2⟩
theorem take9 {l : List UInt8} (h : l.take 9 = Ar.zeros 9) : 9 ≤ l.length ∧ (Ar.put l 1 [97, 98, 99]).take 5 = [0, 97, 98, 99, 0] := by
  have hl : 9 ≤ l.length := by have := congrArg List.length h; simp [Ar.zeros] at this; omega
  refine ⟨hl, ?_⟩
  rw [← List.take_append_drop 9 l, h]
  rfl
theorem aw_write (A n0 : Nat) (b : Ar.Pc) (v : Value) (w : World) (h : HoldA A 1024 [b] n0 w) (hN : IsNew b 1 9) (hv : RdB v [97, 98, 99] w) :
    Calls Tryd.prog 14 #[.pointer (some ⟨A, 0, none⟩), .int .i64 1, .int .i64 1, v] w fun e w' => e = .returned (.int .i64 0) ∧ (∃ q, HoldA A 1024 [q] n0 w' ∧ q.owner = 1 ∧ q.size = 9 ∧ q.data.take 5 = [0, 97, 98, 99, 0]) ∧ Below n0 w w' := by
  refine (write_api A 1024 [b] _ 1 1 v [97, 98, 99] w h.1 hv (by decide) (by decide) (by decide)).mono fun e w' hk => ?_
  rcases hk with ⟨h1, _⟩ | ⟨B1, q, B2, e1, ho, h1⟩
  · exact absurd (show (b.owner : Int) = 1 by rw [hN.own]; rfl) (h1 b (List.mem_singleton.2 rfl))
  · obtain ⟨rfl, rfl, rfl⟩ : B1 = [] ∧ q = b ∧ B2 = [] := by
      cases B1 with
      | nil => simp at e1; exact ⟨rfl, e1.1.symm, e1.2⟩
      | cons x r => simp at e1
    rcases h1 with ⟨h1, _⟩ | ⟨_, he, hL⟩
    · exact absurd (show Within q.size 1 3 by rw [hN.size]; exact ⟨by decide, by decide, by decide, by decide⟩) h1
    · obtain ⟨k1, k2⟩ := h.left hL
      have hz := hN.zero
      exact ⟨he, ⟨_, k1, hN.own, hN.size, (take9 hz).2⟩, k2⟩
theorem aw_read (A n0 : Nat) (q : Ar.Pc) (w : World) (h : HoldA A 1024 [q] n0 w) (h1 : q.owner = 1) (h2 : q.size = 9) (h3 : q.data.take 5 = [0, 97, 98, 99, 0]) :
    Calls Tryd.prog 12 #[.pointer (some ⟨A, 0, none⟩), .int .i64 1, .int .i64 0, .int .i64 5] w fun e w' => (∃ v, e = .returned (.tuple #[v, .int .i64 0]) ∧ w'.ownsRow w.heap.size 5 1 v 5 (([0, 97, 98, 99, 0] : List UInt8).map encB)) ∧ Below w.heap.size w w' := by
  refine (read_api A 1024 [q] _ 1 0 5 w h.1 (by decide) (by decide) (by decide) (by decide)).mono fun e w' hk => ?_
  obtain ⟨hb, hk⟩ := hk
  refine ⟨?_, hb⟩
  rcases hk with ⟨g1, _⟩ | ⟨q', hq, ho, hk⟩
  · exact absurd (show (q.owner : Int) = 1 by rw [h1]; rfl) (g1 q (List.mem_singleton.2 rfl))
  · rw [List.mem_singleton] at hq
    subst hq
    rcases hk with ⟨g1, _⟩ | ⟨_, v, l, hl, he, hr⟩
    · exact absurd (show Within q'.size 0 5 by rw [h2]; exact ⟨by decide, by decide, by decide, by decide⟩) g1
    · have : l = [0, 97, 98, 99, 0] := by rw [hl]; exact h3
      subst this
      exact ⟨v, he, hr⟩
theorem aw_size (A n0 : Nat) (q : Ar.Pc) (w : World) (h : HoldA A 1024 [q] n0 w) (h1 : q.owner = 1) (h2 : q.size = 9) :
    Calls Tryd.prog 19 #[.pointer (some ⟨A, 0, none⟩), .int .i64 1] w fun e w' => e = .returned (.tuple #[.int .i64 9, .bool true]) ∧ Below w.heap.size w w' := by
  refine (size_api A 1024 [q] _ 1 w h.1).mono fun e w' hk => ?_
  obtain ⟨hb, hk⟩ := hk
  refine ⟨?_, hb⟩
  rcases hk with ⟨g1, _⟩ | ⟨q', hq, ho, he⟩
  · exact absurd (show (q.owner : Int) = 1 by rw [h1]; rfl) (g1 q (List.mem_singleton.2 rfl))
  · rw [List.mem_singleton] at hq
    subst hq
    rw [he, h2]
    rfl
theorem sum32 {S : Ar.St} {pcs : List Ar.Pc} {q : Ar.Pc} (I : Ar.Inv S pcs) (e : Ar.blocks pcs = [q]) (h2 : q.size = 9) : Ar.sumT [q] = 32 := by
  have hq : q ∈ Ar.blocks pcs := by rw [e]; exact List.mem_singleton.2 rfl
  obtain ⟨q1, q2⟩ := Ar.mem_blocks.1 hq
  have h3 := ((I.ok q q1).bl q2).2
  rw [h2] at h3
  have h4 : Ar.sumT [q] = q.takes := by simp [Ar.sumT]
  rw [h4, ← h3]
  decide
theorem HoldA.sum {A n0 : Nat} {q : Ar.Pc} {w : World} (h : HoldA A 1024 [q] n0 w) (h2 : q.size = 9) : Ar.sumT [q] = 32 := by
  obtain ⟨⟨L, S, pcs, a, I, e, m⟩, _⟩ := h
  exact sum32 I e h2
theorem aw_used (A n0 : Nat) (q : Ar.Pc) (w : World) (h : HoldA A 1024 [q] n0 w) (h2 : q.size = 9) : Calls Tryd.prog 21 #[.pointer (some ⟨A, 0, none⟩)] w fun e w' => e = .returned (.int .i64 32) ∧ w = w' := by
  have := used_api A 1024 [q] _ w h.1
  rw [h.sum h2] at this
  exact this
theorem aw_left (A n0 : Nat) (q : Ar.Pc) (w : World) (h : HoldA A 1024 [q] n0 w) (h2 : q.size = 9) : Calls Tryd.prog 22 #[.pointer (some ⟨A, 0, none⟩)] w fun e w' => e = .returned (.int .i64 992) ∧ w = w' := by
  have := left_api A 1024 [q] _ w h.1
  rw [h.sum h2] at this
  exact this
theorem aw_compact (A n0 : Nat) (q : Ar.Pc) (w : World) (h : HoldA A 1024 [q] n0 w) (h2 : q.size = 9) : Calls Tryd.prog 16 #[.pointer (some ⟨A, 0, none⟩)] w fun e w' => e = .returned (.int .i64 992) ∧ Below n0 w w' := by
  have := compact_api A 1024 [q] _ w h.1
  rw [h.sum h2] at this
  exact this.mono fun e w' ⟨he, hL⟩ => ⟨he, (h.left hL).2⟩
theorem aw_new (w : World) : Calls Tryd.prog 6 #[.int .i64 1024] w fun e w' => ∃ A, e = .returned (.tuple #[.pointer (some ⟨A, 0, none⟩), .int .i64 0]) ∧ HoldA A 1024 [] w.heap.size w' ∧ Below w.heap.size w w' :=
  (new_api 1024 w (by decide) (by decide)).mono fun e w' ⟨A, he, hH, hb⟩ => ⟨A, he, ⟨hH, hb.size⟩, hb⟩
end Go.Proofs.YtagjjpmhacknpaaDoor
