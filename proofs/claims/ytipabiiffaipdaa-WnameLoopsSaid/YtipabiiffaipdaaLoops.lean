/- WnameLoops: its walk. -/
import Derived.Test.YtipabiiffaipdaaGets
import Derived.Test.YtipabiiffaipdaaLoopsMath
import Derived.Test.YtipabiiffaipdaaRound
import Derived.Test.YtipabiiffaipdaaWr
import Derived.Lib.SlBytesConst
namespace Go.Proofs.Ytipabiiffaipdaa
open Go.RowKit Go.Shelf Go.Maps
attribute [local go_sem] Oper.semAt_some

theorem ownE_readB {base : Nat} {v : Value} {l : List UInt8} {W : World} (h : OwnE encB 5 base v l W) : ReadB v l W ∧ CapOk v := by
  rcases h.2 with ⟨rfl, hn⟩ | ⟨g, cap, cur, rfl, hbg, hh, hnc, _⟩
  · have : l = [] := List.length_eq_zero_iff.1 hn
    subst this
    exact ⟨⟨none, 0, rfl, fun j hj => by simp at hj⟩, fun ao n c e => by cases e; omega⟩
  · exact ⟨⟨some ⟨g, 0, none⟩, cap, rfl, fun j hj => ⟨g, 0, rfl, ownE_cell h hj⟩⟩, fun ao n c e => by cases e; omega⟩
/-- A slice of bytes that the call has made: owned, or a constant's, that is full. -/
def Mine (base : Nat) (v : Value) (l : List UInt8) (W : World) : Prop := OwnE encB 5 base v l W ∨ ∃ g, v = .slice (some ⟨g, 0, none⟩) l.length l.length ∧ ReadB v l W
theorem Mine.read {base : Nat} {v : Value} {l : List UInt8} {W : World} (h : Mine base v l W) : ReadB v l W ∧ CapOk v := by
  rcases h with h | ⟨g, rfl, h⟩
  · exact ownE_readB h
  · exact ⟨h, fun ao n c e => by cases e; omega⟩
theorem Mine.alloc {base : Nat} {v : Value} {l : List UInt8} {W : World} (h : Mine base v l W) (o : Obj) : Mine base v l (W.alloc o) := by
  rcases h with h | ⟨g, rfl, h⟩
  · exact .inl (ownE_alloc h o)
  · exact .inr ⟨g, rfl, readB_below h ((Below.refl _ W).alloc (Nat.le_refl _) o)⟩
theorem run_apdM {P : Program} (w : World) (base : Nat) (t ty e : TypeId) (h1 : P.underlying t = some (.slice e)) (he : e = 5)
    (h2 : (P.info? e).map (fun i => (i.zero, i.size, i.bytes)) = some (some (.int .u8 0), 1, 1)) (v : Value) (l : List UInt8) (hown : Mine base v l w) (g2 : Nat) (c : Nat) (news : List UInt8) (hx : ReadB (.slice (some ⟨g2, 0, none⟩) news.length c) news w)
    (hne : news ≠ []) (b1 : l.length + news.length ≤ 1000000) (hb : base ≤ w.heap.size) :
    ∃ v' w', (Builtin.append_ #[t, t] ty #[v, .slice (some ⟨g2, 0, none⟩) news.length c]).run P w = .ok v' w' ∧ OwnE encB e base v' (l ++ news) w' ∧ Below base w w' := by
  subst he
  rcases hown with h | ⟨g, rfl, hr⟩
  · obtain ⟨v', w', hrun, ho, ha, _⟩ := run_apdB (P := P) w base t ty _ h1 h2 v l h _ news hx b1 hb
    exact ⟨v', w', hrun, ho, ha.below⟩
  · obtain ⟨i, hi, hz0, hz1, hz2⟩ := info_parts h2
    have cells : ∀ {g : Nat} {l : List UInt8} {n c : Nat}, ReadB (.slice (some ⟨g, 0, none⟩) n c) l w → ∀ j u, (l.map encB)[j]? = some u → w.cell? ((⟨g, 0, none⟩ : Addr).add j) = some u := fun {g l n c} hr j u hj => by
      rw [List.getElem?_map] at hj
      obtain ⟨y, hy, rfl⟩ := Option.map_eq_some_iff.1 hj
      obtain ⟨hj', rfl⟩ := List.getElem?_eq_some_iff.1 hy
      obtain ⟨ao, cp, e0, hc⟩ := hr.form
      cases e0
      obtain ⟨b, off, e, c⟩ := hc j hj'
      cases e
      have e2 : (⟨g, 0, none⟩ : Addr).add j = ⟨g, 0 + j, none⟩ := by unfold Addr.add; split <;> simp_all
      rw [e2]; exact c
    have hpos : 1 ≤ news.length := List.length_pos_iff.2 hne
    have hrun := run_append_grow (P := P) (w := w) t ty _ i (.int .u8 0) h1 hi hz0 ⟨g, 0, none⟩ l.length l.length (l.map encB) (by simp [hz1]) (cells hr) ⟨g2, 0, none⟩ news.length c (news.map encB) (by simp [hz1]) (cells hx) (by omega) (by omega) (growslice_fits (by omega) (by rw [hz2]; omega))
    have hge := grownCap_ge w (l.length + news.length) l.length 5
    have hcm : grownCap w (l.length + news.length) l.length 5 ≤ maxLen := grownCap_le_maxLen w (l.length + news.length) l.length 5 (by unfold maxLen; omega)
    refine ⟨_, _, hrun, ⟨by simp, .inr ⟨w.heap.size, _, _, by rw [List.length_append], hb, World.alloc_heap_new w.drew _, by rw [List.length_append]; exact hge, hcm, ?_, ?_⟩⟩, ?_⟩
    · simp only [Array.size_append, List.size_toArray, List.length_map, size_zeroCells]
      simp only [Value.cells, Array.size, List.length]
      omega
    · simp only [Array.toList_append, List.append_assoc]
      rw [← List.append_assoc, ← List.map_append, Nat.mul_one, show (l ++ news).length = ((l ++ news).map encB).length by simp]
      exact List.take_left
    · exact (below_drewN (Below.refl base w) 1).alloc (by simpa using hb) _
theorem wpList_apdM {P : Program} (w : World) {ops : Array Oper} {rest : List Oper} {o : Oper} {a : Act} {Q : Exit → Act → World → Prop} (hg : o.guard = none) (s x : Operand) (t : TypeId)
    (hop : o.op = Op.call { callee := Callee.builtin Builtin.append, args := #[s, x], argTypes := #[t, t] })
    (base : Nat) (e : TypeId) (h1 : P.underlying t = some (.slice e)) (he : e = 5)
    (h2 : (P.info? e).map (fun i => (i.zero, i.size, i.bytes)) = some (some (.int .u8 0), 1, 1)) (v : Value) (l : List UInt8) (hs : a.eval s = v) (hown : Mine base v l w) (g2 c : Nat) (news : List UInt8) (hx : a.eval x = .slice (some ⟨g2, 0, none⟩) news.length c) (hr : ReadB (.slice (some ⟨g2, 0, none⟩) news.length c) news w)
    (hne : news ≠ []) (b1 : l.length + news.length ≤ 1000000) (hb : base ≤ w.heap.size)
    (hK : ∀ v' w', OwnE encB e base v' (l ++ news) w' → Below base w w' → wpList P ops Q rest (a.put o.dst v') w') :
    wpList P ops Q (o :: rest) a w := by
  refine wpList_plain hg fun K hK' => ?_
  obtain ⟨v', w', hrun, r1, r2⟩ := run_apdM (P := P) w base t o.type e h1 he h2 v l hown g2 c news hr hne b1 hb
  unfold Oper.wp
  simp [execOp, hop, resolve, invoke, builtin, hs, hx, hrun, Result.andThen]
  exact hK' _ _ (hK v' w' r1 r2)
/-- A constant's bytes. -/
theorem const_read (W : World) (l : List UInt8) (vs : List Value) (n : Nat) (hn : l.length = n) (hv : l.map encB = vs) (t : TypeId) (fz : Nat × Nat) : ReadB (.slice (some ⟨W.heap.size, 0, none⟩) n n) l (W.alloc (.cells vs.toArray t fz)) := by
  subst hn hv
  refine ⟨some ⟨W.heap.size, 0, none⟩, l.length, rfl, fun j hj => ⟨W.heap.size, 0, rfl, ?_⟩⟩
  show (match (W.alloc (.cells (l.map encB).toArray t fz)).heap[W.heap.size]? with | some (.cells c _ _) => c[0 + j]? | _ => none) = some _
  rw [World.alloc_heap_new W _]
  simp [hj]
/-- What Get and the document's own Get return of one answer. -/
theorem rets (G : Option (List UInt8 × Nat)) : ∃ (S : ByteArray) (X E : Int) (ok : Bool), getRet G = .tuple #[.string S, .int .i64 X, .int .i64 E] ∧ rgetRet G = .tuple #[.string S, .int .i64 X, .bool ok] ∧ (E == 0) = ok := by
  cases G with
  | none => exact ⟨_, _, _, _, rfl, rfl, rfl⟩
  | some r => obtain ⟨n, k⟩ := r; exact ⟨_, _, _, _, rfl, rfl, rfl⟩
theorem chain_cells {v : Value} {ks : List Nat} {W : World} (h : ReadB v (Wn.chain ks) W) {j q p : Nat} (hp : p = 3 + 2 * j) (hj : j < ks.length) (hq : ks[j] = q) (h256 : q < 256) :
    ∃ g off cap, v = .slice (some ⟨g, off, none⟩) (3 + 2 * ks.length) cap ∧ W.cell? ⟨g, off + p, none⟩ = some (.int .u8 192) ∧ W.cell? ⟨g, off + (p + 1), none⟩ = some (.int .u8 (q : Int)) := by
  subst hp hq
  obtain ⟨h1, h2⟩ := Wn.chain_at hj
  obtain ⟨hl1, e1⟩ := List.getElem?_eq_some_iff.1 h1
  obtain ⟨hl2, e2⟩ := List.getElem?_eq_some_iff.1 h2
  obtain ⟨ao, cap, rfl, hc⟩ := h.form
  obtain ⟨g, off, rfl, c1⟩ := hc _ hl1
  obtain ⟨g2, off2, e, c2⟩ := hc _ hl2
  cases e
  refine ⟨g, off, cap, by rw [Wn.chain_length], by rw [c1, e1]; rfl, ?_⟩
  rw [← Nat.add_assoc off] at c2 ⊢
  rw [c2, e2]
  unfold encB
  rw [UInt8.toNat_ofNat_of_lt' (show ks[j] < 2 ^ 8 by omega)]
theorem int_eq {k : IntKind} {a b : Int} (h : a = b) : Value.int k a = .int k b := by rw [h]
theorem tm {q : Nat} (h : 3 ≤ q) : Int.tmod ((q : Int) - 3) 2 = (((q - 3) % 2 : Nat) : Int) := by
  rw [show (q : Int) - 3 = ((q - 3 : Nat) : Int) by omega]
  rfl
def onOf : Value → Nat
  | .bool true => 1
  | _ => 0

set_option maxRecDepth 100000 in
set_option maxHeartbeats 8000000 in
theorem loops_any (n z : Int) (zs : List Int) (tv : Value) (w : World) (hr : ReadI tv zs w) (hlen : zs.length ≤ 9223372036854775807) (hb : ∀ x ∈ zs, -9223372036854775808 ≤ x ∧ x ≤ 9223372036854775807)
    (hn1 : -9223372036854775808 ≤ n) (hn2 : n ≤ 9223372036854775807) (hz1 : -9223372036854775808 ≤ z) (hz2 : z ≤ 9223372036854775807) :
    Calls Try.prog 6 #[.int .i64 n, tv, .int .i64 z] w fun e w' => e = .returned (.bool true) ∧ Below w.heap.size w w' := by
  obtain ⟨ao, cap, rfl, hc⟩ := hr.form
  by_cases hg : n < 1 ∨ 100 < n ∨ 100 < zs.length
  · have hcase : n < 1 ∨ (1 ≤ n ∧ 100 < n) ∨ (1 ≤ n ∧ n ≤ 100 ∧ 100 < zs.length) := by omega
    clear hg hc hr
    rcases hcase with c1 | ⟨c1, c2⟩ | ⟨c1, c2, c3⟩
    all_goals
      go_enter Try.func6, Try.ntmps6
      go_wp2_with (go_at_call 9; refine (awake_any _).mono ?_; rintro e w2 ⟨rfl, b2⟩)
      go_ret
      exact ⟨rfl, b2⟩
  · have c1 : 1 ≤ n := by omega
    have c2 : n ≤ 100 := by omega
    have c3 : zs.length ≤ 100 := by omega
    obtain ⟨m, rfl⟩ := Int.eq_ofNat_of_zero_le (by omega : 0 ≤ n)
    obtain ⟨kr1, kr2⟩ := roundI_bounds z (m : Int) (by omega)
    obtain ⟨kk, hkk⟩ := Int.eq_ofNat_of_zero_le kr1
    have hkm : kk < m := by omega
    have HKK := Lib.hid hkk
    have HC := Lib.hid hc
    have HB := Lib.hid hb
    clear hg hc hr hb kr1 kr2 hkk
    have kc := fun (w : World) (C : Array Value) (n c : Nat) => Lib.run_convert_bytes_const (P := Try.prog) w 22 5 C n c Try.underlying22 Try.underlying5
    go_enter Try.func6, Try.ntmps6
    go_wp2_with fail
    go_loopw [7, 8] (fun v i wr => ∃ (ks : List Nat) (ao1 : Option Addr) (k1 l1 : Nat), v = .slice ao1 k1 l1 ∧ i = .int .i64 (ks.length : Int) ∧ ks.length ≤ m ∧ Hid (∀ k ∈ ks, k < 220) ∧ Hid (Mine w.heap.size v (Wn.chain ks) wr) ∧ Below w.heap.size w wr) (fun _ i _ => m - (intOf i).toNat)
    case atStart => exact ⟨[], _, _, _, rfl, rfl, Nat.zero_le _, Lib.hid (by simp), Lib.hid (.inr ⟨w.heap.size, rfl, const_read w [1, 97, 0] [_, _, _] 3 rfl rfl _ _⟩), (Below.refl _ _).alloc (Nat.le_refl _) _⟩
    case round =>
      obtain ⟨ks, ao1, k1, l1, rfl, rfl, hks, hk220, hown, hbw⟩ := hrel
      by_cases hlt : ks.length < m
      · by_cases hz : ks.length < zs.length
        · obtain ⟨g, off, rfl, cz0⟩ := HC.out _ hz
          have cz := (hbw.cell (cell_lt cz0)).trans cz0
          obtain ⟨hx1, hx2⟩ := HB.out _ (List.getElem_mem hz)
          obtain ⟨x, hx⟩ : ∃ x, x = zs[ks.length] := ⟨_, rfl⟩
          rw [← hx] at cz hx1 hx2
          obtain ⟨kr1, kr2⟩ := roundI_bounds x 220 (by omega)
          obtain ⟨k, hk⟩ := Int.eq_ofNat_of_zero_le kr1
          have hk2 : k < 220 := by omega
          have HK := Lib.hid hk
          have HLIT : Hid ([192, UInt8.ofNat k].map encB = [.int .u8 192, .int .u8 (k : Int)]) := Lib.hid (by simp only [List.map_cons, List.map_nil, encB]; rw [UInt8.toNat_ofNat_of_lt' (show k < 2 ^ 8 by omega)]; rfl)
          have hq1 : Int.tdiv (k : Int) 256 = 0 := Int.tdiv_eq_zero_of_lt (by omega) (by omega)
          have hq2 : Int.tmod (k : Int) 256 = k := Int.tmod_eq_of_lt (by omega) (by omega)
          clear cz0 hx kr1 kr2 hk
          go_wp2_with (first
            | (go_at_call 27; refine (round_any x 220 _ (by omega) (by omega) hx1 hx2).mono ?_; rw [HK.out]; rintro e w' ⟨rfl, rfl⟩)
            | (at_builtin; refine wpList_apdM _ rfl _ _ 22 rfl w.heap.size 5 Try.underlying22 rfl infoByte (.slice ao1 k1 l1) (Wn.chain ks) rfl (hown.out.alloc _) wr.heap.size 2 [192, UInt8.ofNat k] rfl (readB_lit wr [192, UInt8.ofNat k] [_, _] _ 2 rfl HLIT.out) (by simp) (by rw [Wn.chain_length]; simp; omega) (by simp; have := hbw.size; omega) ?_; intro v1 w1 ho1 hb1; obtain ⟨ao2, k2, l2, rfl⟩ := own_shape ho1; have HO1 := Lib.hid ho1; clear ho1))
          exact ⟨⟨ks ++ [k], _, _, _, rfl, by simp, by simp; omega, Lib.hid (fun x hx => by rcases List.mem_append.1 hx with h | h; exact hk220.out x h; simp at h; omega), Lib.hid (.inl (by rw [Wn.chain_append]; exact HO1.out)), ((hbw.alloc (by have := hbw.size; omega) _).trans hb1)⟩, by simp [intOf]; omega⟩
        · obtain ⟨k, hk⟩ : ∃ k : Nat, k = 0 := ⟨_, rfl⟩
          have hk2 : k < 220 := by omega
          have HLIT : Hid ([192, UInt8.ofNat k].map encB = [.int .u8 192, .int .u8 0]) := Lib.hid (by rw [hk]; rfl)
          clear hk
          go_wp2_with (first
            | (at_builtin; refine wpList_apdM _ rfl _ _ 22 rfl w.heap.size 5 Try.underlying22 rfl infoByte (.slice ao1 k1 l1) (Wn.chain ks) rfl (hown.out.alloc _) wr.heap.size 2 [192, UInt8.ofNat k] rfl (readB_lit wr [192, UInt8.ofNat k] [_, _] _ 2 rfl HLIT.out) (by simp) (by rw [Wn.chain_length]; simp; omega) (by simp; have := hbw.size; omega) ?_; intro v1 w1 ho1 hb1; obtain ⟨ao2, k2, l2, rfl⟩ := own_shape ho1; have HO1 := Lib.hid ho1; clear ho1))
          exact ⟨⟨ks ++ [k], _, _, _, rfl, by simp, by simp; omega, Lib.hid (fun x hx => by rcases List.mem_append.1 hx with h | h; exact hk220.out x h; simp at h; omega), Lib.hid (.inl (by rw [Wn.chain_append]; exact HO1.out)), ((hbw.alloc (by have := hbw.size; omega) _).trans hb1)⟩, by simp [intOf]; omega⟩
      · obtain rfl : m = ks.length := by omega
        obtain ⟨S, X, E, ok, hg1, hg2, hE⟩ := rets (Wn.get (Wn.chain ks) (3 + 2 * (kk : Int)))
        have HRB := Lib.hid hown.out.read
        have HG1 := Lib.hid hg1
        have HG2 := Lib.hid hg2
        have hcl : (Wn.chain ks).length ≤ 100000 := by rw [Wn.chain_length]; omega
        have HCL := Lib.hid hcl
        clear hg1 hg2 hown HC HB hcl
        go_wp2_with fail
        refine (round_any z (ks.length : Int) _ (by omega) (by omega) hz1 hz2).mono ?_
        rw [HKK.out]
        rintro e w' ⟨rfl, rfl⟩
        go_wp2_with fail
        refine (get_any (Wn.chain ks) _ (3 + 2 * (kk : Int)) _ HRB.out.1 HRB.out.2 HCL.out (by omega) (by omega)).mono ?_
        rw [HG1.out]
        rintro e w3 ⟨rfl, b3⟩
        have HR3 := Lib.hid (readB_below HRB.out.1 b3)
        have b3' := below_trans hbw b3
        go_wp2_with fail
        go_loopw [14, 15] (fun pv gv wr2 => ∃ (p nx : Nat) (good : Bool), pv = .int .i64 (p : Int) ∧ gv = .bool good ∧ p ≤ 300 ∧ Hid (good = true → (p < 3 ∨ ∃ j, p = 3 + 2 * j ∧ j ≤ kk) ∧ Wn.get (Wn.chain ks) (3 + 2 * (kk : Int)) = Wn.fin [] nx (Wn.getU (Wn.chain ks) p) ∧ (p = 3 + 2 * kk ∧ nx = 0 ∨ p < 3 + 2 * kk ∧ nx = 5 + 2 * kk)) ∧ Below w3.heap.size w3 wr2) (fun pv gv _ => onOf gv * ((intOf pv).toNat + 1))
        case atStart => exact ⟨3 + 2 * kk, 0, true, int_eq (by omega), rfl, by omega, Lib.hid (fun _ => ⟨.inr ⟨kk, rfl, Nat.le_refl _⟩, by rw [show (3 + 2 * (kk : Int)) = ((3 + 2 * kk : Nat) : Int) by omega]; exact Wn.get_nat _ _, .inl ⟨rfl, rfl⟩⟩), Below.refl _ _⟩
        case round =>
          obtain ⟨p, nx, good, rfl, rfl, hp, hinv, hb3⟩ := hrel
          cases good with
          | false =>
            clear hinv
            by_cases hp3 : 3 ≤ p
            all_goals
              go_wp2_with (first
                | (go_at_call 11; refine (rget_any (Wn.chain ks) _ (3 + 2 * (kk : Int)) _ (readB_below HR3.out (by first | exact hb3 | exact below_drewN hb3 _)) HRB.out.2 HCL.out (by omega) (by omega)).mono ?_; rw [HG2.out]; rintro e w' ⟨rfl, rfl⟩)
                | (go_at_call 9; refine (awake_any _).mono ?_; rintro e w4 ⟨rfl, b4⟩))
              go_ret
              exact ⟨rfl, below_trans (below_trans b3' hb3) b4⟩
          | true =>
            obtain ⟨hpl, hget, hnx⟩ := hinv.out rfl
            clear hinv
            have HGET := Lib.hid hget
            clear hget
            rcases hpl with hp3 | ⟨j, hpj, hjk⟩
            · have h012 : p = 0 ∨ p = 1 ∨ p = 2 := by omega
              obtain rfl : nx = 5 + 2 * kk := by omega
              rcases h012 with rfl | rfl | rfl
              · have hv : getRet (some ([1, 97, 0], 5 + 2 * kk)) = .tuple #[.string S, .int .i64 X, .int .i64 E] := by
                  rw [← HG1.out, HGET.out, Wn.chain_zero, Wn.fin_yes (by simp), if_neg (by omega)]; rfl
                obtain ⟨rfl, rfl, rfl⟩ : S = ⟨#[1, 97, 0]⟩ ∧ X = 5 + 2 * (kk : Int) ∧ E = 0 := by
                  simp only [getRet, Value.tuple.injEq, Array.mk.injEq, List.cons.injEq, Value.string.injEq, Value.int.injEq, true_and, and_true] at hv
                  exact ⟨hv.1.symm, by omega, hv.2.2.symm⟩
                clear hv
                go_wp2_with (go_at_call 9; refine (awake_any _).mono ?_; rintro e w4 ⟨rfl, b4⟩)
                go_ret
                exact ⟨rfl, below_trans (below_trans b3' hb3) b4⟩
              · go_wp2_with (first
                  | (go_at_call 11; refine (rget_any (Wn.chain ks) _ (3 + 2 * (kk : Int)) _ (readB_below HR3.out (by first | exact hb3 | exact below_drewN hb3 _)) HRB.out.2 HCL.out (by omega) (by omega)).mono ?_; rw [HG2.out]; rintro e w' ⟨rfl, rfl⟩)
                  | (go_at_call 9; refine (awake_any _).mono ?_; rintro e w4 ⟨rfl, b4⟩))
                go_ret
                exact ⟨rfl, below_trans (below_trans b3' hb3) b4⟩
              · have hv : getRet (some ([0], 5 + 2 * kk)) = .tuple #[.string S, .int .i64 X, .int .i64 E] := by
                  rw [← HG1.out, HGET.out, Wn.chain_two, Wn.fin_yes (by simp), if_neg (by omega)]; rfl
                obtain ⟨rfl, rfl, rfl⟩ : S = ⟨#[0]⟩ ∧ X = 5 + 2 * (kk : Int) ∧ E = 0 := by
                  simp only [getRet, Value.tuple.injEq, Array.mk.injEq, List.cons.injEq, Value.string.injEq, Value.int.injEq, true_and, and_true] at hv
                  exact ⟨hv.1.symm, by omega, hv.2.2.symm⟩
                clear hv
                go_wp2_with (go_at_call 9; refine (awake_any _).mono ?_; rintro e w4 ⟨rfl, b4⟩)
                go_ret
                exact ⟨rfl, below_trans (below_trans b3' hb3) b4⟩
            · have hjl : j < ks.length := by omega
              obtain ⟨q, hq⟩ : ∃ q, ks[j] = q := ⟨_, rfl⟩
              have hq220 : q < 220 := by rw [← hq]; exact hk220.out _ (List.getElem_mem hjl)
              obtain ⟨g, off, cp, e, cz1, cz2⟩ := chain_cells (readB_below HR3.out hb3) hpj hjl hq (by omega)
              obtain ⟨rfl, rfl, rfl⟩ := Value.slice.inj e
              have hp3 : 3 ≤ p := by omega
              have hpn : p + 1 < 3 + 2 * ks.length := by omega
              have HJ := Lib.hid hpj
              have HQ := Lib.hid hq
              have HNX := Lib.hid hnx
              clear e hpj hq hnx
              have hcase : (3 ≤ q ∧ (q - 3) % 2 = 1 ∧ q < p) ∨ (3 ≤ q ∧ (q - 3) % 2 = 1 ∧ p ≤ q) ∨ (q < 3 ∧ q < p) ∨ (3 ≤ q ∧ (q - 3) % 2 = 0 ∧ q < p) ∨ (3 ≤ q ∧ (q - 3) % 2 = 0 ∧ p ≤ q) := by omega
              rcases hcase with ⟨d1, d2, d3⟩ | ⟨d1, d2, d3⟩ | ⟨d1, d3⟩ | ⟨d1, d2, d3⟩ | ⟨d1, d2, d3⟩
              · have ht := tm d1
                rw [d2] at ht
                clear d2
                go_wp2
                go_quiet (fail)
                go_wp2_with (first
                  | (go_at_call 11; refine (rget_any (Wn.chain ks) _ (3 + 2 * (kk : Int)) _ (readB_below HR3.out (by first | exact hb3 | exact below_drewN hb3 _)) HRB.out.2 HCL.out (by omega) (by omega)).mono ?_; rw [HG2.out]; rintro e w' ⟨rfl, rfl⟩)
                  | (go_at_call 9; refine (awake_any _).mono ?_; rintro e w4 ⟨rfl, b4⟩))
                go_ret
                exact ⟨rfl, below_trans (below_trans b3' (below_drewN hb3 _)) b4⟩
              · have ht := tm d1
                rw [d2] at ht
                clear d2
                go_wp2
                go_quiet (fail)
                go_wp2_with (first
                  | (go_at_call 11; refine (rget_any (Wn.chain ks) _ (3 + 2 * (kk : Int)) _ (readB_below HR3.out (by first | exact hb3 | exact below_drewN hb3 _)) HRB.out.2 HCL.out (by omega) (by omega)).mono ?_; rw [HG2.out]; rintro e w' ⟨rfl, rfl⟩)
                  | (go_at_call 9; refine (awake_any _).mono ?_; rintro e w4 ⟨rfl, b4⟩))
                go_ret
                exact ⟨rfl, below_trans (below_trans b3' (below_drewN hb3 _)) b4⟩
              · go_wp2
                go_quiet (fail)
                go_wp2
                exact ⟨⟨q, _, true, rfl, rfl, by omega, Lib.hid (fun _ => ⟨.inl d1, HGET.out.trans (by rw [HJ.out]; exact Wn.chain_step hjl HQ.out (by omega) (by rw [← HJ.out]; exact d3)), .inr ⟨by have := HNX.out; omega, by have := HNX.out; have := HJ.out; split <;> omega⟩⟩), below_drewN hb3 _⟩, by simp [onOf, intOf]; omega⟩
              · have ht := tm d1
                rw [d2] at ht
                have hq3 : ∃ j', q = 3 + 2 * j' ∧ j' ≤ kk := ⟨(q - 3) / 2, by omega, by have := HNX.out; omega⟩
                have HQ3 := Lib.hid hq3
                clear d2 hq3
                go_wp2
                go_quiet (fail)
                go_wp2
                exact ⟨⟨q, _, true, rfl, rfl, by omega, Lib.hid (fun _ => ⟨.inr HQ3.out, HGET.out.trans (by rw [HJ.out]; exact Wn.chain_step hjl HQ.out (by omega) (by rw [← HJ.out]; exact d3)), .inr ⟨by have := HNX.out; omega, by have := HNX.out; have := HJ.out; split <;> omega⟩⟩), below_drewN hb3 _⟩, by simp [onOf, intOf]; omega⟩
              · have ht := tm d1
                rw [d2] at ht
                clear d2
                go_wp2
                go_quiet (fail)
                go_wp2
                exact ⟨⟨q, 0, false, rfl, rfl, by omega, Lib.hid (fun h => by cases h), below_drewN hb3 _⟩, by simp [onOf]⟩
end Go.Proofs.Ytipabiiffaipdaa
