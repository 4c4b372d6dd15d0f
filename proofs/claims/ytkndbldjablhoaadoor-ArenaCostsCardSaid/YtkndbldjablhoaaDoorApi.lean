/- The package's functions over an arena that holds these blocks. -/
import Derived.Test.YtkndbldjablhoaaDoorAall
import Derived.Test.YtkndbldjablhoaaDoorWrm
import Derived.Test.YtkndbldjablhoaaDoorNewm
import Derived.Test.YtkndbldjablhoaaDoorTold
set_option maxRecDepth 100000
namespace Go.Proofs.YtkndbldjablhoaaDoor
open Go.RowKit Go.Shelf
/-- A is an arena of so many bytes that holds these blocks. -/
def Hold (A B : Nat) (bs : List Ar.Pc) (f : Nat → Prop) (w : World) : Prop := ∃ L S pcs, ArE A L S f w ∧ Ar.Inv S pcs ∧ Ar.blocks pcs = bs ∧ S.mem.length = B
/-- A call has left it so. -/
structure Left_ (A B : Nat) (bs : List Ar.Pc) (f : Nat → Prop) (w w' : World) : Prop where
  trn : Trn f w w'
  hold : Hold A B bs (grow f w w') w'
theorem Left_.mk' {A B : Nat} {bs : List Ar.Pc} {f : Nat → Prop} {w w' : World} {L : Loc} {S : Ar.St} {pcs : List Ar.Pc} (h : Ars A L S f w w') (I : Ar.Inv S pcs) (hb : Ar.blocks pcs = bs) (hm : S.mem.length = B) : Left_ A B bs f w w' := ⟨h.trn, L, S, pcs, h.ar, I, hb, hm⟩
theorem Left_.below {A B : Nat} {bs : List Ar.Pc} {f : Nat → Prop} {w w' : World} (h : Hold A B bs f w) (hb : Below w.heap.size w w') : Left_ A B bs f w w' := by
  obtain ⟨L, S, pcs, a, I, e, m⟩ := h
  exact .mk' ((Ars.start a).below hb) I e m
/-- The block of a handle, among these. -/
theorem Ar.Inv.place {S : Ar.St} {pcs : List Ar.Pc} (I : Ar.Inv S pcs) (h : Int) : (Ar.PlaceOf S h = none ∧ ∀ q ∈ Ar.blocks pcs, (q.owner : Int) ≠ h) ∨ ∃ v q xs ys, Ar.PlaceOf S h = some v ∧ pcs = xs ++ q :: ys ∧ Ar.total xs = v ∧ q.free = false ∧ (q.owner : Int) = h ∧ q.Ok ∧ (Ar.headAt S.mem v).size = q.size ∧ v + 8 + q.data.length ≤ S.mem.length := by
  cases hp : Ar.PlaceOf S h with
  | none =>
    refine .inl ⟨rfl, fun q hq e => ?_⟩
    obtain ⟨q1, q2⟩ := Ar.mem_blocks.1 hq
    obtain ⟨v, hv⟩ := Ar.at_of_mem q1
    have := (I.hn q.owner v).2 ⟨q, hv, q2, rfl⟩
    rw [e, hp] at this
    cases this
  | some v =>
    obtain ⟨xs, q, ys, k, rfl, rfl, hf, hk, hz, _⟩ := I.block_pos hp
    obtain ⟨⟨a, ha⟩, hl⟩ := I.head (Ar.at_mid xs ys q)
    refine .inr ⟨_, q, xs, ys, rfl, rfl, rfl, hf, by rw [hk, hz], I.ok q (by simp), by rw [ha]; rfl, ?_⟩
    unfold Ar.Pc.takes at hl
    omega
theorem data_ge {q : Ar.Pc} (hq : q.Ok) (hf : q.free = false) : q.size ≤ q.data.length ∧ 8 ≤ q.data.length ∧ q.size ≤ 4096 := by
  obtain ⟨h1, h2⟩ := hq.bl hf
  have h3 := Ar.cost_ge q.size h1
  have h4 := hq.ge
  unfold Ar.Pc.takes at h2 h4
  omega
def AllocOk (A B : Nat) (bs : List Ar.Pc) (n : Int) (f : Nat → Prop) (w : World) (e : Ending) (w' : World) : Prop :=
  (Ar.costI n = 0 ∧ e = .returned (.tuple #[.int .i64 0, .int .i64 3]) ∧ w = w') ∨ (Ar.costI n ≠ 0 ∧ B - Ar.sumT bs < Ar.costI n ∧ e = .returned (.tuple #[.int .i64 0, .int .i64 4]) ∧ w = w') ∨
  (Ar.costI n ≠ 0 ∧ Ar.costI n ≤ B - Ar.sumT bs ∧ ∃ (h : Nat) (B1 B2 : List Ar.Pc) (b : Ar.Pc), e = .returned (.tuple #[.int .i64 (h : Int), .int .i64 0]) ∧ bs = B1 ++ B2 ∧ Left_ A B (B1 ++ b :: B2) f w w' ∧ (b.size : Int) = n ∧ IsNew b h b.size ∧ 1 ≤ h ∧ (∀ q ∈ bs, q.owner ≠ h) ∧ ∀ j, 1 ≤ j → j < h → ∃ q ∈ bs, q.owner = j)
theorem alloc_api (A B : Nat) (bs : List Ar.Pc) (f : Nat → Prop) (n : Int) (w : World) (hH : Hold A B bs f w) (hT : TabOk w) (hG : ¬ f 0) :
    Calls Tryd.prog 13 #[.pointer (some ⟨A, 0, none⟩), .int .i64 n] w (AllocOk A B bs n f w) := by
  obtain ⟨L, S, pcs, a, I, rfl, rfl⟩ := hH
  by_cases h0 : Ar.costI n = 0
  · exact (alloc_big _ n w h0).mono fun e w' h => .inl ⟨h0, h⟩
  · have hr : 0 ≤ n ∧ n ≤ 4096 := by
      unfold Ar.costI at h0
      by_cases h : 0 ≤ n ∧ n ≤ 4096
      · exact h
      · rw [if_neg h] at h0; exact absurd rfl h0
    obtain ⟨k, rfl⟩ : ∃ k : Nat, n = (k : Int) := ⟨n.toNat, by omega⟩
    have hk : k ≤ 4096 := by omega
    have hc : Ar.costI (k : Int) = Ar.cost k := by unfold Ar.costI; rw [if_pos hr, Int.toNat_natCast]
    have hu := I.used
    by_cases hl : S.mem.length - S.used < Ar.cost k
    · exact (alloc_full A L S f k _ w a I.sane hk rfl hl).mono fun e w' h => .inr (.inl ⟨h0, by rw [hc, ← hu]; exact hl, h⟩)
    · refine (alloc_any A L S pcs f k _ w a I hk rfl (by omega) hT hG).mono fun e w' h => .inr (.inr ?_)
      obtain ⟨h, L', S', pcs', B1, B2, b, he, hA, hI, hm, e1, e2, hN, g1, g2, g3⟩ := h
      exact ⟨h0, by rw [hc, ← hu]; omega, h, B1, B2, b, he, e1, .mk' hA hI e2 hm, by rw [hN.size], ⟨hN.free, hN.own, rfl, by rw [hN.size]; exact hN.zero⟩, g1, g2, g3⟩
set_option maxHeartbeats 1000000 in
theorem free_none (v : Value) (h : Int) (w : World) (hb : Calls Tryd.prog 37 #[v, .int .i64 h] w fun e w' => e = .returned (.tuple #[.int .i64 0, .bool false]) ∧ ∃ n, w' = w.drewN n) :
    Calls Tryd.prog 15 #[v, .int .i64 h] w fun e w' => e = .returned (.int .i64 5) ∧ ∃ n, w' = w.drewN n := by
  have HB := Lib.hid hb
  clear hb
  go_enter Tryd.func15, Tryd.ntmps15
  go_wp2_with (go_at_call 37; (refine HB.out.mono ?_); rintro e w' ⟨rfl, n, rfl⟩)
  go_ret
  exact ⟨rfl, _, rfl⟩
def FreeOk (A B : Nat) (bs : List Ar.Pc) (h : Int) (f : Nat → Prop) (w : World) (e : Ending) (w' : World) : Prop :=
  ((∀ q ∈ bs, (q.owner : Int) ≠ h) ∧ e = .returned (.int .i64 5) ∧ Below w.heap.size w w') ∨ (∃ B1 q B2, bs = B1 ++ q :: B2 ∧ (q.owner : Int) = h ∧ e = .returned (.int .i64 0) ∧ Left_ A B (B1 ++ B2) f w w')
theorem free_api (A B : Nat) (bs : List Ar.Pc) (f : Nat → Prop) (h : Int) (w : World) (hH : Hold A B bs f w) :
    Calls Tryd.prog 15 #[.pointer (some ⟨A, 0, none⟩), .int .i64 h] w (FreeOk A B bs h f w) := by
  obtain ⟨L, S, pcs, a, I, rfl, rfl⟩ := hH
  rcases I.place h with ⟨h1, h2⟩ | ⟨v, q, xs, ys, h1, _⟩
  · exact (free_none _ h w (block_none A L S f h w a I.sane h1)).mono fun e w' ⟨he, n, hw⟩ => .inl ⟨h2, he, by rw [hw]; exact below_dr w n⟩
  · refine (free_any A L S pcs f h v w a I h1).mono fun e w' ⟨he, L', S', pcs', B1, B2, p, hA, hI, hm, e1, e2, e3⟩ => .inr ⟨B1, p, B2, e1, e3, he, .mk' hA hI e2 hm⟩
def SizeOk (bs : List Ar.Pc) (h : Int) (w : World) (e : Ending) (w' : World) : Prop :=
  Below w.heap.size w w' ∧ (((∀ q ∈ bs, (q.owner : Int) ≠ h) ∧ e = .returned (.tuple #[.int .i64 0, .bool false])) ∨ ∃ q ∈ bs, (q.owner : Int) = h ∧ e = .returned (.tuple #[.int .i64 (q.size : Int), .bool true]))
theorem size_api (A B : Nat) (bs : List Ar.Pc) (f : Nat → Prop) (h : Int) (w : World) (hH : Hold A B bs f w) :
    Calls Tryd.prog 28 #[.pointer (some ⟨A, 0, none⟩), .int .i64 h] w (SizeOk bs h w) := by
  obtain ⟨L, S, pcs, a, I, rfl, rfl⟩ := hH
  rcases I.place h with ⟨h1, h2⟩ | ⟨v, q, xs, ys, h1, rfl, rfl, hf, ho, hok, hsz, hlen⟩
  · exact (size_none A L S f h w a I.sane h1).mono fun e w' ⟨he, n, hw⟩ => ⟨by rw [hw]; exact below_dr w n, .inl ⟨h2, he⟩⟩
  · exact (size_some A L S f h _ _ w a I.sane h1 (by omega) rfl).mono fun e w' ⟨he, hb⟩ => ⟨hb, .inr ⟨q, Ar.mem_blocks.2 ⟨by simp, hf⟩, ho, by rw [he, hsz]⟩⟩
theorem used_api (A B : Nat) (bs : List Ar.Pc) (f : Nat → Prop) (w : World) (hH : Hold A B bs f w) : Calls Tryd.prog 27 #[.pointer (some ⟨A, 0, none⟩)] w fun e w' => e = .returned (.int .i64 (Ar.sumT bs : Int)) ∧ w = w' := by
  obtain ⟨L, S, pcs, a, I, rfl, rfl⟩ := hH
  rw [← I.used]
  exact used_any A L S f w a
theorem left_api (A B : Nat) (bs : List Ar.Pc) (f : Nat → Prop) (w : World) (hH : Hold A B bs f w) : Calls Tryd.prog 25 #[.pointer (some ⟨A, 0, none⟩)] w fun e w' => e = .returned (.int .i64 ((B - Ar.sumT bs : Nat) : Int)) ∧ w = w' := by
  obtain ⟨L, S, pcs, a, I, rfl, rfl⟩ := hH
  rw [← I.used]
  exact left_any A L S f w a I.sane.mem I.sane.used
theorem compact_api (A B : Nat) (bs : List Ar.Pc) (f : Nat → Prop) (w : World) (hH : Hold A B bs f w) : Calls Tryd.prog 21 #[.pointer (some ⟨A, 0, none⟩)] w fun e w' => e = .returned (.int .i64 ((B - Ar.sumT bs : Nat) : Int)) ∧ Left_ A B bs f w w' := by
  obtain ⟨L, S, pcs, a, I, rfl, rfl⟩ := hH
  rw [← I.used]
  exact (compact_any A L S pcs f w a I).mono fun e w' ⟨he, L', S', pcs', hA, hI, e1, hm⟩ => ⟨he, .mk' hA hI e1 hm⟩
def ReadOk (bs : List Ar.Pc) (h at_ n : Int) (w : World) (e : Ending) (w' : World) : Prop :=
  Below w.heap.size w w' ∧ (((∀ q ∈ bs, (q.owner : Int) ≠ h) ∧ e = .returned (.tuple #[.slice none 0 0, .int .i64 5])) ∨ ∃ q ∈ bs, (q.owner : Int) = h ∧
    ((¬ Within q.size at_ n ∧ e = .returned (.tuple #[.slice none 0 0, .int .i64 1])) ∨ (Within q.size at_ n ∧ ∃ v l, l = (q.data.drop at_.toNat).take n.toNat ∧ e = .returned (.tuple #[v, .int .i64 0]) ∧ w'.ownsRow w.heap.size 5 1 v l.length (l.map encB))))
theorem read_api (A B : Nat) (bs : List Ar.Pc) (f : Nat → Prop) (h at_ n : Int) (w : World) (hH : Hold A B bs f w)
    (hI1 : -9223372036854775808 ≤ at_) (hI2 : at_ ≤ 9223372036854775807) (hI3 : -9223372036854775808 ≤ n) (hI4 : n ≤ 9223372036854775807) :
    Calls Tryd.prog 17 #[.pointer (some ⟨A, 0, none⟩), .int .i64 h, .int .i64 at_, .int .i64 n] w (ReadOk bs h at_ n w) := by
  obtain ⟨L, S, pcs, a, I, rfl, rfl⟩ := hH
  rcases I.place h with ⟨h1, h2⟩ | ⟨v, q, xs, ys, h1, rfl, rfl, hf, ho, hok, hsz, hlen⟩
  · exact (read_err _ h at_ n 5 w ((span_none A L S f h at_ n w a I.sane h1).mono fun e w' ⟨he, k, hw⟩ => ⟨he, by rw [hw]; exact below_dr w k⟩)).mono fun e w' ⟨he, hb⟩ => ⟨hb, .inl ⟨h2, he⟩⟩
  · have hq : q ∈ Ar.blocks (xs ++ q :: ys) := Ar.mem_blocks.2 ⟨by simp, hf⟩
    obtain ⟨d1, d2, d3⟩ := data_ge hok hf
    by_cases hw : Within q.size at_ n
    · obtain ⟨w1, w2, w3, w4⟩ := id hw
      obtain ⟨i, rfl⟩ : ∃ i : Nat, at_ = (i : Int) := ⟨at_.toNat, by omega⟩
      obtain ⟨m, rfl⟩ : ∃ m : Nat, n = (m : Int) := ⟨n.toNat, by omega⟩
      have hg := read_good A L S f h i m _ _ w a I.sane h1 hsz (by omega) (by omega) (by omega)
      rw [I.bytes i m (by omega)] at hg
      exact hg.mono fun e w' ⟨v, he, hr, hb⟩ => ⟨hb, .inr ⟨q, hq, ho, .inr ⟨hw, v, _, by simp only [Int.toNat_natCast], he, hr⟩⟩⟩
    · exact (read_err _ h at_ n 1 w (span_bad A L S f h at_ n _ _ w a I.sane h1 hsz (by omega) (by omega) hw hI1 hI2 hI3 hI4)).mono fun e w' ⟨he, hb⟩ => ⟨hb, .inr ⟨q, hq, ho, .inl ⟨hw, he⟩⟩⟩
def WriteOk (A B : Nat) (bs : List Ar.Pc) (h at_ : Int) (l : List UInt8) (f : Nat → Prop) (w : World) (e : Ending) (w' : World) : Prop :=
  ((∀ q ∈ bs, (q.owner : Int) ≠ h) ∧ e = .returned (.int .i64 5) ∧ Below w.heap.size w w') ∨ ∃ B1 q B2, bs = B1 ++ q :: B2 ∧ (q.owner : Int) = h ∧
    ((¬ Within q.size at_ l.length ∧ e = .returned (.int .i64 1) ∧ Below w.heap.size w w') ∨ (Within q.size at_ l.length ∧ e = .returned (.int .i64 0) ∧ Left_ A B (B1 ++ { q with data := Ar.put q.data at_.toNat l } :: B2) f w w'))
theorem write_api (A B : Nat) (bs : List Ar.Pc) (f : Nat → Prop) (h at_ : Int) (b : Value) (l : List UInt8) (w : World) (hH : Hold A B bs f w) (hb : RdB b l w) (hl : l.length ≤ 1048576)
    (hI1 : -9223372036854775808 ≤ at_) (hI2 : at_ ≤ 9223372036854775807) :
    Calls Tryd.prog 19 #[.pointer (some ⟨A, 0, none⟩), .int .i64 h, .int .i64 at_, b] w (WriteOk A B bs h at_ l f w) := by
  obtain ⟨L, S, pcs, a, I, rfl, rfl⟩ := hH
  rcases I.place h with ⟨h1, h2⟩ | ⟨v, q, xs, ys, h1, rfl, rfl, hf, ho, hok, hsz, hlen⟩
  · exact (write_err _ b l h at_ 5 w hb hl ((span_none A L S f h at_ _ w a I.sane h1).mono fun e w' ⟨he, k, hw⟩ => ⟨he, by rw [hw]; exact below_dr w k⟩)).mono fun e w' ⟨he, hb⟩ => .inl ⟨h2, he, hb⟩
  · have hbl : Ar.blocks (xs ++ q :: ys) = Ar.blocks xs ++ q :: Ar.blocks ys := by rw [Ar.blocks_app, Ar.blocks_block ys hf]
    obtain ⟨d1, d2, d3⟩ := data_ge hok hf
    by_cases hw : Within q.size at_ l.length
    · obtain ⟨w1, w2, w3, w4⟩ := id hw
      obtain ⟨i, rfl⟩ : ∃ i : Nat, at_ = (i : Int) := ⟨at_.toNat, by omega⟩
      have hg := write_good A L S f h i b l _ _ w a I.sane hb h1 hsz (by omega) (by omega) (by omega)
      have hput := I.put_ i l (by omega)
      have hdl := Ar.put_len q.data i l (by omega)
      have hinv := I.data hf (Ar.put q.data i l) hdl
      rw [hput] at hg
      refine hg.mono fun e w' ⟨he, hA⟩ => .inr ⟨_, q, _, hbl, ho, .inr ⟨hw, he, ?_⟩⟩
      rw [Int.toNat_natCast]
      refine .mk' hA hinv (by rw [Ar.blocks_app, Ar.blocks_block (p := { q with data := Ar.put q.data i l }) ys hf]) ?_
      show (Ar.put _ _ _).length = _
      rw [Ar.put_len _ _ _ (by rw [hdl]; omega)]
    · exact (write_err _ b l h at_ 1 w hb hl (span_bad A L S f h at_ _ _ _ w a I.sane h1 hsz (by omega) (by omega) hw hI1 hI2 (by omega) (by omega))).mono fun e w' ⟨he, hb⟩ => .inr ⟨_, q, _, hbl, ho, .inl ⟨hw, he, hb⟩⟩
def NewOk (B : Nat) (w : World) (e : Ending) (w' : World) : Prop := ∃ A, e = .returned (.tuple #[.pointer (some ⟨A, 0, none⟩), .int .i64 0]) ∧ Hold A B [] (fun j => w.heap.size ≤ j ∧ j < w'.heap.size) w' ∧ Below w.heap.size w w'
theorem new_api (B : Nat) (w : World) (h1 : 1024 ≤ B) (h2 : B ≤ 1048576) : Calls Tryd.prog 11 #[.int .i64 (B : Int)] w (NewOk B w) := by
  obtain ⟨pcs, hI, hb, hm⟩ := Ar.new_inv B h1 h2
  exact (new_any B w h1 h2).mono fun e w' ⟨A, L, he, hA, hbl⟩ => ⟨A, he, ⟨L, _, pcs, hA, hI, hb, hm⟩, hbl⟩
end Go.Proofs.YtkndbldjablhoaaDoor
