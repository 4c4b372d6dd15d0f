/- 2 texts put together: Aset, Arel. -/
import Derived.Lib.SliceRun
import Derived.Test.YtagjjpmhacknpaaDoorJB4
/- settle: a block of a free piece. -/
set_option maxRecDepth 100000
namespace Go.Proofs.YtagjjpmhacknpaaDoor
open Go.RowKit Go.Shelf
theorem Blk.setCells {B : Nat} {t : TypeId} : ∀ (vs : List Value) (o : Nat) (W : World) (l : List Value), Blk W B l t → o + vs.length ≤ l.length → Blk (W.setCells B o vs) B (l.take o ++ vs ++ l.drop (o + vs.length)) t ∧ Trn (fun k => k = B) W (W.setCells B o vs)
  | [], o, W, l, h, _ => ⟨by simpa [World.setCells] using h, Trn.refl _ _⟩
  | v :: vs, o, W, l, h, hl => by
    simp only [List.length_cons] at hl
    have h1 := h.set o v
    obtain ⟨h2, h3⟩ := Blk.setCells vs (o + 1) (W.setCell ⟨B, o, none⟩ v) (l.set o v) h1 (by simp; omega)
    refine ⟨?_, (Trn.set1 h o v).trans (h3.to (.inl rfl))⟩
    have e : (l.set o v).take (o + 1) ++ vs ++ (l.set o v).drop (o + 1 + vs.length) = l.take o ++ v :: vs ++ l.drop (o + (vs.length + 1)) := by
      rw [List.take_succ_eq_append_getElem (by simp; omega), List.getElem_set_self, List.take_set_of_le (by omega), List.drop_set_of_lt (by omega)]
      simp [Nat.add_assoc, Nat.add_comm 1]
    rw [List.length_cons, ← e]
    exact h2
/-- An arena's own blocks. -/
def five (A : Nat) (L : Loc) : Nat → Prop := fun k => k = A ∨ k = L.M ∨ k = L.P ∨ k = L.U ∨ k = L.N
theorem five_of {A : Nat} {L : Loc} {S : Ar.St} {f : Nat → Prop} {w : World} (h : ArE A L S f w) {k : Nat} (e : five A L k) : f k := by
  rcases e with rfl | rfl | rfl | rfl | rfl
  · exact h.fA
  · exact h.fM
  · exact h.fP
  · exact h.fU
  · exact h.fN
theorem ArE.tight {A : Nat} {L : Loc} {S : Ar.St} {f : Nat → Prop} {w : World} (h : ArE A L S f w) : ArE A L S (five A L) w :=
  ⟨h.box, h.mem, h.pl, h.us, h.nd, h.cap, h.cm, .inl rfl, .inr (.inl rfl), .inr (.inr (.inl rfl)), .inr (.inr (.inr (.inl rfl))), .inr (.inr (.inr (.inr rfl))), fun k e => h.fb k (five_of h e)⟩
theorem ArE.notFive {A : Nat} {L : Loc} {S : Ar.St} {f : Nat → Prop} {w : World} (h : ArE A L S f w) {B : Nat} (hB : w.heap.size ≤ B) : ¬ five A L B := fun e => by
  have := h.fb B (five_of h e); omega
theorem Ars.call {A : Nat} {L L2 : Loc} {S S2 : Ar.St} {f : Nat → Prop} {w w1 w2 : World} (h : Ars A L S f w w1) (t : Trn (five A L) w1 w2) (a : ArE A L2 S2 (five A L) w2) : Ars A L2 S2 f w w2 :=
  h.same (t.mono (fun _ _ e => five_of h.ar e)) (a.wide (fun _ e => five_of h.ar e) (fun k e => Nat.lt_of_lt_of_le (h.ar.fb k e) t.size))
theorem Ars.callR {A : Nat} {L L2 : Loc} {S S2 : Ar.St} {f : Nat → Prop} {w w1 w2 : World} (h : Ars A L S f w w1) (a : Ars A L2 S2 (five A L) w1 w2) : Ars A L2 S2 f w w2 :=
  h.more (a.trn.mono (fun _ _ e => five_of h.ar e)) (a.ar.wide (fun _ e => e.imp (fun e => five_of h.ar e) id) (fun k e => e.elim (fun e => Nat.lt_of_lt_of_le (h.ar.fb k e) a.trn.size) (fun e => e.2)))
theorem zeroB (w : World) : (zeroValue 5).run Tryd.prog w = .ok (.int .u8 0) w := by kernel_rfl
theorem clear_run (ty : TypeId) (M o n c : Nat) (mem : List UInt8) (W : World) (h : Blk W M (mem.map encB) 5) (hn : o + n ≤ mem.length) :
    (Builtin.clear_ #[34] ty #[.slice (some ⟨M, o, none⟩) n c]).run Tryd.prog W = .ok (.tuple #[]) (W.setCells M o (List.replicate n (.int .u8 0))) := by
  cases n with
  | zero => simp [Builtin.clear_, run_underlying Tryd.underlying34, World.setCells]
  | succ n =>
    refine Lib.run_clear_slice W 34 5 ty (.int .u8 0) Tryd.underlying34 zeroB rfl rfl M o (n + 1) c (by omega) (fun j hj => ?_) (fun j _ => h.frozen _)
    rw [h.cell (i := o + j) (v := encB (mem.getD (o + j) 0)) (by simp [show o + j < mem.length by omega])]
    rfl
theorem clear_blk (M o n : Nat) (mem : List UInt8) (W : World) (h : Blk W M (mem.map encB) 5) (hn : o + n ≤ mem.length) :
    Blk (W.setCells M o (List.replicate n (.int .u8 0))) M ((Ar.put mem o (List.replicate n 0)).map encB) 5 ∧ Trn (fun k => k = M) W (W.setCells M o (List.replicate n (.int .u8 0))) := by
  have := Blk.setCells (List.replicate n (.int .u8 0)) o W (mem.map encB) h (by simp; omega)
  refine ⟨?_, this.2⟩
  have e : (Ar.put mem o (List.replicate n 0)).map encB = (mem.map encB).take o ++ List.replicate n (.int .u8 0) ++ (mem.map encB).drop (o + (List.replicate n (Value.int .u8 0)).length) := by
    unfold Ar.put
    simp [encB]
  rw [e]
  exact this.1
namespace Ar
def zeros (n : Nat) : List UInt8 := List.replicate n 0
def settle (S : St) (at_ h n : Nat) : St :=
  let p := headAt S.mem at_
  let S1 := takeFree S at_
  let S3 := { S1 with mem := put (putHd S.mem at_ ⟨false, false, h, n, p.ahead⟩) (at_ + 8) (zeros n) }
  if cost n < p.size then putFree S3 (at_ + cost n) (p.size - cost n) (cost n) else S3
end Ar
theorem Ar.takeFree_mem (S : Ar.St) (a : Nat) : (Ar.takeFree S a).mem = S.mem := by
  unfold Ar.takeFree
  split
  · rfl
  · split <;> rfl
theorem putFree_at (A : Nat) (L : Loc) (S : Ar.St) (f : Nat → Prop) (za zs zh : Int) (a size ahead : Nat) (w : World) (h : ArE A L S f w) (hza : za = (a : Int)) (hzs : zs = (size : Int)) (hzh : zh = (ahead : Int)) (hm : S.mem.length ≤ 1048576) (h1 : 16 ≤ size) (h2 : a + size ≤ S.mem.length) (h16 : (a + size) % 16 = 0) (h3 : ahead ≤ 1048576)
    (hc1 : Ar.cls size < S.nd.length) (hc2 : (Ar.nodeAt S.nd (Ar.cls size)).n < S.nd.length) (hc3 : S.spare < S.nd.length) (hc4 : S.nd.length < 200000) :
    Calls Tryd.prog 25 #[.pointer (some ⟨A, 0, none⟩), .int .i64 za, .int .i64 zs, .int .i64 zh] w (ArRet A (Ar.putFree S a size ahead) f (.tuple #[]) w) := by
  subst hza hzs hzh
  exact putFree_any A L S f a size ahead w h hm h1 h2 h16 h3 hc1 hc2 hc3 hc4
theorem cost_at (n c : Nat) (w : World) (hn : n ≤ 4096) (hc : Ar.cost n = c) : Calls Tryd.prog 20 #[.int .i64 (n : Int)] w fun e w' => e = .returned (.int .i64 (c : Int)) ∧ w = w' := by
  have := cost_any (n : Int) w
  unfold Ar.costI at this
  rw [if_pos ⟨by omega, by omega⟩, Int.toNat_natCast, hc] at this
  exact this
set_option maxHeartbeats 4000000 in
theorem settle_any (A : Nat) (L : Loc) (S : Ar.St) (f : Nat → Prop) (a h n : Nat) (w : World) (hA : ArE A L S f w) (hm : S.mem.length ≤ 1048576) (h1 : a ≠ Ar.fin S) (hfr : (Ar.headAt S.mem a).free = true) (hn : n ≤ 4096) (hh : h < 1048576)
    (h2 : a + Ar.cost n ≤ S.mem.length) (h3 : Ar.cost n ≤ (Ar.headAt S.mem a).size) (h4 : Ar.cost n < (Ar.headAt S.mem a).size → 16 ≤ (Ar.headAt S.mem a).size - Ar.cost n ∧ a + (Ar.headAt S.mem a).size ≤ S.mem.length ∧ (a + (Ar.headAt S.mem a).size) % 16 = 0)
    (hc : (Ar.headAt S.mem a).owner < S.nd.length ∧ (Ar.nodeAt S.nd (Ar.headAt S.mem a).owner).n < S.nd.length ∧ (Ar.nodeAt S.nd (Ar.headAt S.mem a).owner).l < S.nd.length) (hc4 : S.nd.length < 200000)
    (hc5 : ∀ c, c < 17 → c < (Ar.takeFree S a).nd.length ∧ (Ar.nodeAt (Ar.takeFree S a).nd c).n < (Ar.takeFree S a).nd.length) (hc6 : (Ar.takeFree S a).spare < (Ar.takeFree S a).nd.length) (hc7 : (Ar.takeFree S a).nd.length < 200000) :
    Calls Tryd.prog 29 #[.pointer (some ⟨A, 0, none⟩), .int .i64 (a : Int), .int .i64 (h : Int), .int .i64 (n : Int)] w (ArRet A (Ar.settle S a h n) f (.tuple #[]) w) := by
  have hcost := Ar.cost_ge n hn
  have hmem := Ar.takeFree_mem S a
  have hwas : Ar.tookFree S a = (Ar.headAt S.mem a, true) := by unfold Ar.tookFree; rw [if_neg h1, hfr]
  have htk := takeFree_any A L S f a a w rfl hA hm (fun _ => by omega) (fun _ _ => hc) (by omega)
  rw [hwas] at htk
  have HTK := Lib.hid htk
  clear htk hwas
  have HS : Hid (Ar.settle S a h n = if Ar.cost n < (Ar.headAt S.mem a).size then Ar.putFree { Ar.takeFree S a with mem := Ar.put (Ar.putHd S.mem a ⟨false, false, h, n, (Ar.headAt S.mem a).ahead⟩) (a + 8) (Ar.zeros n) } (a + Ar.cost n) ((Ar.headAt S.mem a).size - Ar.cost n) (Ar.cost n) else { Ar.takeFree S a with mem := Ar.put (Ar.putHd S.mem a ⟨false, false, h, n, (Ar.headAt S.mem a).ahead⟩) (a + 8) (Ar.zeros n) }) := Lib.hid rfl
  have hft := Ar.headAt_fits S.mem a
  obtain ⟨p, hp⟩ : ∃ p, Ar.headAt S.mem a = p := ⟨_, rfl⟩
  rw [hp] at HTK HS hft h3 h4 hfr
  clear hc hp
  obtain ⟨q1, q2, q3⟩ := hft
  generalize Ar.takeFree S a = S1 at *
  have HM := Lib.hid hmem
  clear hmem h1
  obtain ⟨fr, mk, ow, sz, ah⟩ := p
  simp only at *
  subst hfr
  have hl2 := Ar.putHd_len S.mem a ⟨false, false, h, n, ah⟩ (by omega)
  go_enter Tryd.func29, Tryd.ntmps29
  go_wp2_with (go_at_call 52; (refine HTK.out.mono ?_); rintro e w1 ⟨rfl, hA1⟩; refine Hid.out ?_)
  refine Lib.hid ?_
  have hMlt1 := hA1.ar.mem.lt
  have hnf := hA1.ar.notFive (Nat.le_refl _)
  have H1 := Lib.hid (hA1.below (w2 := w1.alloc (.cells #[.bool true, .bool mk, .int .i64 (ow : Int), .int .i64 (sz : Int), .int .i64 (ah : Int)] 69)) ((Below.refl _ _).alloc (Nat.le_refl _) _))
  have HB := Lib.hid (Blk.new w1 [.bool true, .bool mk, .int .i64 (ow : Int), .int .i64 (sz : Int), .int .i64 (ah : Int)] 69)
  clear hA1
  go_wp2_with (go_at_call 45; (with_reducible refine (putHead_agg A L S1 _ (a : Int) a false false h n ah _ rfl H1.out.ar.tight (by rw [HM.out]; exact hm) (by rw [HM.out]; omega) hh (by omega) q3).mono ?_); rintro e w2 ⟨rfl, ht2, hA2⟩; refine Hid.out ?_)
  refine Lib.hid ?_
  have H2 := Lib.hid (H1.out.call ht2 hA2)
  have HB2 := Lib.hid (HB.out.trn ht2 hnf)
  clear HB H1 ht2 hA2
  have hl2' : (Ar.putHd S1.mem a ⟨false, false, h, n, ah⟩).length ≤ 1048576 ∧ a + 8 + n ≤ (Ar.putHd S1.mem a ⟨false, false, h, n, ah⟩).length ∧ a + 8 < (Ar.putHd S1.mem a ⟨false, false, h, n, ah⟩).length := by rw [HM.out, hl2]; omega
  have hsz : (Ar.headAt (Ar.putHd S1.mem a ⟨false, false, h, n, ah⟩) a).size = n := by rw [Ar.headAt_putHd _ _ _ (by rw [HM.out]; omega) ⟨hh, show n < 2097152 by omega, q3⟩]
  have HSZ := Lib.hid hsz
  clear hsz
  go_wp2_with (first
    | (go_at_call 53; (with_reducible refine (inside_any A L _ _ a n _ H2.out.ar.tight hl2'.1 HSZ.out hl2'.2.1 hl2'.2.2).mono ?_); rintro e w3 ⟨⟨c, rfl, hcx⟩, hb3⟩; clear hcx; have hbk := H2.out.ar.mem.kept (hb3.block _ H2.out.ar.mem.lt); have hcl := fun ty => clear_run ty L.M (a + 8) n c _ w3 hbk hl2'.2.1; have hclB := clear_blk L.M (a + 8) n _ w3 hbk hl2'.2.1; have H3 := Lib.hid (H2.out.below hb3); have HB3 := Lib.hid (HB2.out.kept (hb3.block _ HB2.out.lt)); refine Hid.out ?_))
  refine Lib.hid ?_
  have hMlt : L.M < w1.heap.size := hMlt1
  have HB4 := Lib.hid (HB3.out.trn hclB.2 (fun e => by omega))
  have H4 := Lib.hid (H3.out.call (hclB.2.mono (fun k _ e => .inr (.inl e))) (H3.out.ar.tight.setMem hclB.1 (Ar.put_len _ _ _ (by simp; exact hl2'.2.1)) (fun k hk hs => hclB.2.block k hs hk) hclB.2.size))
  clear hbk hclB H3 HB3
  have hl3 : (Ar.put (Ar.putHd S1.mem a ⟨false, false, h, n, ah⟩) (a + 8) (List.replicate n 0)).length = S.mem.length := by
    rw [Ar.put_len _ _ _ (by simp; exact hl2'.2.1), HM.out, hl2]
  have HL3 := Lib.hid hl3
  have y2 := HB4.out.cell (i := 3) rfl
  clear hl3 hl2 hl2' HB2 H2 hnf hMlt1
  by_cases hlt : Ar.cost n < sz
  · rw [if_pos hlt] at HS
    obtain ⟨h5, h6, h7⟩ := h4 hlt
    have hs1 : ((sz - Ar.cost n : Nat) : Int) = (sz : Int) - (Ar.cost n : Int) := by omega
    have hk := (Ar.cls_spec (s := sz - Ar.cost n) h5 (by omega)).2.2
    have HK := Lib.hid (hc5 (Ar.cls (sz - Ar.cost n)) (by omega))
    clear hc5
    generalize hcn : Ar.cost n = cn at *
    have HCN := Lib.hid hcn
    clear hcn
    go_wp2_with (go_at_call 20; (with_reducible refine (cost_at n cn _ hn HCN.out).mono ?_); rintro e w' ⟨rfl, rfl⟩)
    go_wp2_with (go_at_call 25; (refine (putFree_at A L _ _ ((a : Int) + (cn : Int)) ((sz : Int) - (cn : Int)) (cn : Int) (a + cn) (sz - cn) cn _ H4.out.ar.tight (by omega) (by omega) rfl (by simp only; rw [HL3.out]; exact hm) h5 (by simp only; rw [HL3.out]; omega) (by omega) (by omega) HK.out.1 HK.out.2 hc6 hc7).mono ?_); rintro e w5 ⟨rfl, L5, hA5⟩)
    go_end0
    refine ⟨rfl, L5, ?_⟩
    rw [HS.out, ← HM.out]
    exact H4.out.callR hA5
  · rw [if_neg hlt] at HS
    have hge : ¬ ((Ar.cost n : Int) < (sz : Int)) := by omega
    generalize hcn : Ar.cost n = cn at *
    have HCN := Lib.hid hcn
    clear hcn
    go_wp2_with (go_at_call 20; (with_reducible refine (cost_at n cn _ hn HCN.out).mono ?_); rintro e w' ⟨rfl, rfl⟩)
    go_end0
    refine ⟨rfl, L, ?_⟩
    rw [HS.out, ← HM.out]
    exact H4.out
end Go.Proofs.YtagjjpmhacknpaaDoor

/- release: a free piece of a block. -/
set_option maxRecDepth 100000
namespace Go.Proofs.YtagjjpmhacknpaaDoor
open Go.RowKit Go.Shelf
namespace Ar
def release (S : St) (at_ : Nat) : St :=
  let p := headAt S.mem at_
  let q := tookFree S (at_ + p.takes)
  let S1 := takeFree S (at_ + p.takes)
  let size := if q.2 then p.takes + q.1.size else p.takes
  let r := tookFree S1 (at_ - p.ahead)
  let S2 := takeFree S1 (at_ - p.ahead)
  if r.2 then putFree S2 (at_ - p.ahead) (size + r.1.size) r.1.ahead else putFree S2 at_ size p.ahead
/-- What a piece that is taken must be. -/
def TakeOk (S : St) (a : Nat) : Prop := (a ≠ fin S → a + 8 ≤ S.mem.length) ∧ (a ≠ fin S → (headAt S.mem a).free = true → (headAt S.mem a).owner < S.nd.length ∧ (nodeAt S.nd (headAt S.mem a).owner).n < S.nd.length ∧ (nodeAt S.nd (headAt S.mem a).owner).l < S.nd.length) ∧ S.nd.length ≤ 200000
/-- What a piece that is put must be. -/
def PutOk (S : St) (a size ahead : Nat) : Prop := 16 ≤ size ∧ a + size ≤ S.mem.length ∧ (a + size) % 16 = 0 ∧ ahead ≤ 1048576 ∧ cls size < S.nd.length ∧ (nodeAt S.nd (cls size)).n < S.nd.length ∧ S.spare < S.nd.length ∧ S.nd.length < 200000
def relSize (tk : Nat) (q : Head) (bq : Bool) : Nat := match bq with | true => tk + q.size | false => tk
def relEnd (S2 : St) (a : Nat) (p : Head) (sz : Nat) (r : Head) (br : Bool) : St := match br with | true => putFree S2 (a - p.ahead) (sz + r.size) r.ahead | false => putFree S2 a sz p.ahead
def RelOk (S2 : St) (a : Nat) (p : Head) (sz : Nat) (r : Head) (br : Bool) : Prop := match br with | true => PutOk S2 (a - p.ahead) (sz + r.size) r.ahead | false => PutOk S2 a sz p.ahead
end Ar
theorem takeFree_at (A : Nat) (L : Loc) (S : Ar.St) (f : Nat → Prop) (z : Int) (a : Nat) (p : Ar.Head) (b : Bool) (S1 : Ar.St) (w : World) (hz : z = (a : Int)) (h : ArE A L S f w) (hm : S.mem.length ≤ 1048576) (ht : Ar.TakeOk S a) (h1 : Ar.tookFree S a = (p, b)) (h2 : Ar.takeFree S a = S1) :
    Calls Tryd.prog 52 #[.pointer (some ⟨A, 0, none⟩), .int .i64 z] w fun e w' => (e = .returned (.tuple #[.agg #[.bool p.free, .bool p.marked, .int .i64 (p.owner : Int), .int .i64 (p.size : Int), .int .i64 (p.ahead : Int)], .bool b])) ∧ Ars A L S1 f w w' := by
  have := takeFree_any A L S f z a w hz h hm ht.1 ht.2.1 ht.2.2
  rw [h1, h2] at this
  exact this
theorem takes_agg (p : Ar.Head) (n : Nat) (w : World) (hn : p.takes = n) : Calls Tryd.prog 33 #[.agg #[.bool p.free, .bool p.marked, .int .i64 (p.owner : Int), .int .i64 (p.size : Int), .int .i64 (p.ahead : Int)]] w fun e w' => e = .returned (.int .i64 (n : Int)) ∧ Below w.heap.size w w' := by
  subst hn
  exact takes_any p w
set_option maxHeartbeats 4000000 in
theorem release_any (A : Nat) (L : Loc) (S S1 S2 : Ar.St) (f : Nat → Prop) (a tk : Nat) (p q r : Ar.Head) (bq br : Bool) (w : World) (hA : ArE A L S f w) (hm : S.mem.length ≤ 1048576) (ha : a + 8 ≤ S.mem.length) (hp : Ar.headAt S.mem a = p) (htk : p.takes = tk)
    (htk2 : tk ≤ 1048576) (hah : p.ahead ≤ a)
    (hq : Ar.tookFree S (a + tk) = (q, bq)) (hS1 : Ar.takeFree S (a + tk) = S1) (ok1 : Ar.TakeOk S (a + tk))
    (hr : Ar.tookFree S1 (a - p.ahead) = (r, br)) (hS2 : Ar.takeFree S1 (a - p.ahead) = S2) (ok2 : Ar.TakeOk S1 (a - p.ahead))
    (hqs : q.size ≤ 1048576) (hrs : r.size ≤ 1048576)
    (ok3 : Ar.RelOk S2 a p (Ar.relSize tk q bq) r br) :
    Calls Tryd.prog 35 #[.pointer (some ⟨A, 0, none⟩), .int .i64 (a : Int)] w (ArRet A (Ar.relEnd S2 a p (Ar.relSize tk q bq) r br) f (.tuple #[]) w) := by
  have hm1 : S1.mem.length ≤ 1048576 := by rw [← hS1, Ar.takeFree_mem]; exact hm
  have hm2 : S2.mem.length ≤ 1048576 := by rw [← hS2, Ar.takeFree_mem]; exact hm1
  have HQ := Lib.hid hq
  have HR := Lib.hid hr
  have H1 := Lib.hid hS1
  have H2 := Lib.hid hS2
  have HP := Lib.hid hp
  have HT := Lib.hid htk
  clear hq hr hS1 hS2 hp htk
  go_enter Tryd.func35, Tryd.ntmps35
  go_wp2_with (go_at_call 32; (with_reducible refine (head_agg A L S _ _ a p _ rfl hA hm ha HP.out).mono ?_); rintro e w1 ⟨rfl, hb1⟩; refine Hid.out ?_)
  refine Lib.hid ?_
  have A1 := Lib.hid ((Ars.start hA).below hb1)
  have hz1 := hb1.size
  clear hb1
  have HB := Lib.hid ((Blk.new w1 [.bool p.free, .bool p.marked, .int .i64 (p.owner : Int), .int .i64 (p.size : Int), .int .i64 (p.ahead : Int)] 69).drw)
  have A2 := Lib.hid ((A1.out.below ((Below.refl _ _).alloc (Nat.le_refl _) (.cells #[.bool p.free, .bool p.marked, .int .i64 (p.owner : Int), .int .i64 (p.size : Int), .int .i64 (p.ahead : Int)] 69))).drw)
  go_wp2
  go_region_with (go_at_call 33; refine (takes_agg p tk _ HT.out).mono ?_; rintro e w2 ⟨rfl, hb2⟩; have hB2 := HB.out.kept (hb2.block _ HB.out.lt); have y3 := hB2.cell (i := 4) rfl; have A3 := Lib.hid (A2.out.below hb2); replace hb2 := Lib.hid hB2; clear hB2)
  all_goals
    clear HB A2 A1
    have hz2 : w.heap.size ≤ w2.heap.size := A3.out.trn.size
    go_wp2_with (go_at_call 52; (with_reducible refine (takeFree_at A L S _ ((a : Int) + (tk : Int)) (a + tk) q bq S1 _ (by omega) A3.out.ar.tight hm ok1 HQ.out H1.out).mono ?_); rintro e w3 ⟨rfl, hA3⟩; refine Hid.out ?_)
    refine Lib.hid ?_
    have A4 := Lib.hid (A3.out.callR hA3)
    have A5 := Lib.hid (A4.out.below (w2 := w3.alloc (.cells #[.bool q.free, .bool q.marked, .int .i64 (q.owner : Int), .int .i64 (q.size : Int), .int .i64 (q.ahead : Int)] 69)) ((Below.refl _ _).alloc (Nat.le_refl _) _))
    clear hA3 A4 A3 hb2 y3 hz1 hz2
    cases bq
    · go_wp2_with (go_at_call 52; (with_reducible refine (takeFree_at A L S1 _ ((a : Int) - (p.ahead : Int)) (a - p.ahead) r br S2 _ (by omega) A5.out.ar.tight hm1 ok2 HR.out H2.out).mono ?_); rintro e w4 ⟨rfl, hA4⟩; refine Hid.out ?_)
      refine Lib.hid ?_
      have A6 := Lib.hid (A5.out.callR hA4)
      have A7 := Lib.hid (A6.out.below (w2 := w4.alloc (.cells #[.bool r.free, .bool r.marked, .int .i64 (r.owner : Int), .int .i64 (r.size : Int), .int .i64 (r.ahead : Int)] 69)) ((Below.refl _ _).alloc (Nat.le_refl _) _))
      clear hA4 A6 A5
      cases br
      · obtain ⟨o1, o2, o3, o4, o5, o6, o7, o8⟩ : Ar.PutOk S2 a (tk) p.ahead := ok3
        have A8 := A7.out
        have A8 := Lib.hid A8
        clear A7
        go_wp2_with (go_at_call 25; (refine (putFree_at A L S2 _ (a : Int) (tk : Int) (p.ahead : Int) a (tk) p.ahead _ A8.out.ar.tight (by omega) (by omega) rfl hm2 o1 o2 o3 o4 o5 o6 o7 o8).mono ?_); rintro e w6 ⟨rfl, L6, hA6⟩)
        go_end0
        exact ⟨rfl, L6, A8.out.callR hA6⟩
      · obtain ⟨o1, o2, o3, o4, o5, o6, o7, o8⟩ : Ar.PutOk S2 (a - p.ahead) (tk + r.size) r.ahead := ok3
        go_wp2
        go_quiet (fail)
        generalize hW : World.drewN _ _ = W5
        have A8 := hW ▸ A7.out.drew _
        have A8 := Lib.hid A8
        clear A7
        go_wp2_with (go_at_call 25; (refine (putFree_at A L S2 _ ((a : Int) - (p.ahead : Int)) ((tk : Int) + (r.size : Int)) (r.ahead : Int) (a - p.ahead) (tk + r.size) r.ahead _ A8.out.ar.tight (by omega) (by omega) rfl hm2 o1 o2 o3 o4 o5 o6 o7 o8).mono ?_); rintro e w6 ⟨rfl, L6, hA6⟩)
        go_end0
        exact ⟨rfl, L6, A8.out.callR hA6⟩
    · go_wp2_with (go_at_call 52; (with_reducible refine (takeFree_at A L S1 _ ((a : Int) - (p.ahead : Int)) (a - p.ahead) r br S2 _ (by omega) A5.out.ar.tight hm1 ok2 HR.out H2.out).mono ?_); rintro e w4 ⟨rfl, hA4⟩; refine Hid.out ?_)
      refine Lib.hid ?_
      have A6 := Lib.hid (A5.out.callR hA4)
      have A7 := Lib.hid (A6.out.below (w2 := w4.alloc (.cells #[.bool r.free, .bool r.marked, .int .i64 (r.owner : Int), .int .i64 (r.size : Int), .int .i64 (r.ahead : Int)] 69)) ((Below.refl _ _).alloc (Nat.le_refl _) _))
      clear hA4 A6 A5
      cases br
      · obtain ⟨o1, o2, o3, o4, o5, o6, o7, o8⟩ : Ar.PutOk S2 a (tk + q.size) p.ahead := ok3
        have A8 := A7.out
        have A8 := Lib.hid A8
        clear A7
        go_wp2_with (go_at_call 25; (refine (putFree_at A L S2 _ (a : Int) ((tk : Int) + (q.size : Int)) (p.ahead : Int) a (tk + q.size) p.ahead _ A8.out.ar.tight (by omega) (by omega) rfl hm2 o1 o2 o3 o4 o5 o6 o7 o8).mono ?_); rintro e w6 ⟨rfl, L6, hA6⟩)
        go_end0
        exact ⟨rfl, L6, A8.out.callR hA6⟩
      · obtain ⟨o1, o2, o3, o4, o5, o6, o7, o8⟩ : Ar.PutOk S2 (a - p.ahead) (tk + q.size + r.size) r.ahead := ok3
        go_wp2
        go_quiet (fail)
        generalize hW : World.drewN _ _ = W5
        have A8 := hW ▸ A7.out.drew _
        have A8 := Lib.hid A8
        clear A7
        go_wp2_with (go_at_call 25; (refine (putFree_at A L S2 _ ((a : Int) - (p.ahead : Int)) (((tk : Int) + (q.size : Int)) + (r.size : Int)) (r.ahead : Int) (a - p.ahead) (tk + q.size + r.size) r.ahead _ A8.out.ar.tight (by omega) (by omega) rfl hm2 o1 o2 o3 o4 o5 o6 o7 o8).mono ?_); rintro e w6 ⟨rfl, L6, hA6⟩)
        go_end0
        exact ⟨rfl, L6, A8.out.callR hA6⟩
end Go.Proofs.YtagjjpmhacknpaaDoor
