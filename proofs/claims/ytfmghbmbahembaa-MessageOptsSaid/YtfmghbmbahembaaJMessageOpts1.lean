/- MessageOpts of package freshetlaw4 (a message's EDNS record is the root's, stands behind all others with its size, and a second one, one elsewhere, or of another name, is refused) returns true at every two ints.
   Conditions: those of the row, none beside. -/
import Derived.Test.YtfmghbmbahembaaJB38
import Derived.Test.YtfmghbmbahembaaJB39
import Derived.Test.YtfmghbmbahembaaJB22
import Derived.Test.YtfmghbmbahembaaJB40
/- append of a string, and slices of bytes that are read: for the laws of messages. -/
namespace Go.Proofs.Ytfmghbmbahembaa
open Go.RowKit Go.Shelf Go.Maps
attribute [local go_sem] Oper.semAt_some

theorem run_apdStr (w : World) (base : Nat) (ty : TypeId) (v : Value) (l : List UInt8) (hown : OwnE encB 5 base v l w) (news : List UInt8) (b1 : l.length + news.length ≤ 1000000) (hb : base ≤ w.heap.size) :
    ∃ v' w', (Builtin.append_ #[22, 9] ty #[v, .string ⟨news.toArray⟩]).run Try.prog w = .ok v' w' ∧ OwnE encB 5 base v' (l ++ news) w' ∧ w.grownBy w' v.ownBlock := by
  obtain ⟨i, hi, hz0, hz1, hz2⟩ := info_parts infoByte
  have hsz : (⟨news.toArray⟩ : ByteArray).size = news.length := by show news.toArray.size = _; simp
  obtain ⟨v', w', hrun, r1, r2, r3⟩ := Lib.run_append_own_string (P := Try.prog) w base 22 9 ty 5 i Try.underlying22 Try.underlying9 hi hz0 hz1 hz2 v l.length (l.map encB) hown ⟨news.toArray⟩ (by rw [hsz]; exact Nat.le_trans b1 (by unfold maxLen; decide)) (by rw [hsz]; omega) hb
  rw [hsz, strCells_enc] at r1
  exact ⟨v', w', hrun, by unfold OwnE; rw [List.map_append, List.length_append]; exact r1, r2⟩
theorem wpList_apdStr (w : World) {ops : Array Oper} {rest : List Oper} {o : Oper} {a : Act} {Q : Exit → Act → World → Prop} (hg : o.guard = none) (s x : Operand)
    (hop : o.op = Op.call { callee := Callee.builtin Builtin.append, args := #[s, x], argTypes := #[22, 9] })
    (base : Nat) (v : Value) (l : List UInt8) (hs : a.eval s = v) (hown : OwnE encB 5 base v l w) (news : List UInt8) (hx : a.eval x = .string ⟨news.toArray⟩)
    (b1 : l.length + news.length ≤ 1000000) (hb : base ≤ w.heap.size)
    (hK : ∀ v' w', OwnE encB 5 base v' (l ++ news) w' → Below base w w' → wpList Try.prog ops Q rest (a.put o.dst v') w') :
    wpList Try.prog ops Q (o :: rest) a w := by
  refine wpList_plain hg fun K hK' => ?_
  obtain ⟨v', w', hrun, r1, r2⟩ := run_apdStr w base o.type v l hown news b1 hb
  unfold Oper.wp
  simp [execOp, hop, resolve, invoke, builtin, hs, hx, hrun, Result.andThen]
  exact hK' _ _ (hK v' w' r1 ((Below.refl base w).grown r2 hb (fun k e => (World.ownsRow.lt hown k e).1)))
theorem step_apdStr {ops : Array Oper} {o : Oper} {a : Act} {w : World} {K : Act → World → Prop} {Q : Exit → Act → World → Prop} {E : Prop}
    (hg : o.guard = none) (s x : Operand) (hop : o.op = Op.call { callee := Callee.builtin Builtin.append, args := #[s, x], argTypes := #[22, 9] })
    (base : Nat) (v : Value) (l : List UInt8) (hs : a.eval s = v) (hown : OwnE encB 5 base v l w) (news : List UInt8) (hx : a.eval x = .string ⟨news.toArray⟩)
    (b1 : l.length + news.length ≤ 1000000) (hb : base ≤ w.heap.size)
    (hK : ∀ v' w', OwnE encB 5 base v' (l ++ news) w' → Below base w w' → K (a.put o.dst v') w') :
    if Region.wanted o (yielded ops a.tmps) = true then Oper.wp Try.prog o a w K Q else E := by
  have hw : Region.wanted o (yielded ops a.tmps) = true := by simp [Region.wanted, hg]
  rw [if_pos hw]
  obtain ⟨v', w', hrun, r1, r2⟩ := run_apdStr w base o.type v l hown news b1 hb
  unfold Oper.wp
  simp [execOp, hop, resolve, invoke, builtin, hs, hx, hrun, Result.andThen]
  exact hK v' w' r1 ((Below.refl base w).grown r2 hb (fun k e => (World.ownsRow.lt hown k e).1))
theorem step_apdB {ops : Array Oper} {o : Oper} {a : Act} {w : World} {K : Act → World → Prop} {Q : Exit → Act → World → Prop} {E : Prop}
    (hg : o.guard = none) (s x : Operand) (hop : o.op = Op.call { callee := Callee.builtin Builtin.append, args := #[s, x], argTypes := #[22, 22] })
    (base : Nat) (v : Value) (l : List UInt8) (hs : a.eval s = v) (hown : OwnE encB 5 base v l w) (xv : Value) (news : List UInt8) (hx : a.eval x = xv) (hr : ReadB xv news w)
    (b1 : l.length + news.length ≤ 1000000) (hb : base ≤ w.heap.size)
    (hK : ∀ v' w', OwnE encB 5 base v' (l ++ news) w' → Below base w w' → K (a.put o.dst v') w') :
    if Region.wanted o (yielded ops a.tmps) = true then Oper.wp Try.prog o a w K Q else E := by
  have hw : Region.wanted o (yielded ops a.tmps) = true := by simp [Region.wanted, hg]
  rw [if_pos hw]
  obtain ⟨v', w', hrun, r1, r2, _⟩ := run_apdB (P := Try.prog) w base 22 o.type 5 Try.underlying22 infoByte v l hown xv news hr b1 hb
  unfold Oper.wp
  simp [execOp, hop, resolve, invoke, builtin, hs, hx, hrun, Result.andThen]
  exact hK v' w' r1 r2.below

theorem readB_drop {g off n cap k : Nat} {l : List UInt8} {W : World} (h : ReadB (.slice (some ⟨g, off, none⟩) n cap) l W) (hk : k ≤ l.length) (c' : Nat) : ReadB (.slice (some ⟨g, off + k, none⟩) (n - k) c') (l.drop k) W := by
  obtain ⟨ao, c, e, hc⟩ := h.form
  cases e
  refine ⟨_, c', by rw [List.length_drop], fun j hj => ⟨g, off + k, rfl, ?_⟩⟩
  rw [List.length_drop] at hj
  obtain ⟨b, o, e, h1⟩ := hc (k + j) (by omega)
  cases e
  rw [List.getElem_drop, Nat.add_assoc]
  exact h1
theorem readB_take {g off n cap k : Nat} {l : List UInt8} {W : World} (h : ReadB (.slice (some ⟨g, off, none⟩) n cap) l W) (hk : k ≤ l.length) (c' : Nat) : ReadB (.slice (some ⟨g, off, none⟩) k c') (l.take k) W := by
  obtain ⟨ao, c, e, hc⟩ := h.form
  cases e
  refine ⟨_, c', by rw [List.length_take, Nat.min_eq_left hk], fun j hj => ⟨g, off, rfl, ?_⟩⟩
  rw [List.length_take] at hj
  obtain ⟨b, o, e, h1⟩ := hc j (by omega)
  cases e
  rw [List.getElem_take]
  exact h1
theorem ownE_new0 (W : World) (base : Nat) (hb : base ≤ W.heap.size) : OwnE encB 5 base (.slice (some ⟨W.heap.size, 0, none⟩) 0 0) [] (W.alloc (.cells #[] 5)) :=
  ⟨rfl, .inr ⟨W.heap.size, 0, #[], rfl, hb, World.alloc_heap_new W _, Nat.le_refl _, by decide, rfl, rfl⟩⟩
end Go.Proofs.Ytfmghbmbahembaa

/- MessageOpts. -/
namespace Go.Proofs.Ytfmghbmbahembaa
open Go.RowKit Go.Shelf Go.Maps
attribute [local go_sem] Oper.semAt_some

theorem opts_enc {z0 : Int} {x0 x1 : UInt8} (a1 : 0 ≤ z0) (a2 : z0 ≤ 65535) (dz : z0 = ((x0.toNat * 256 + x1.toNat : Nat) : Int)) : Ms.enc (Ms.oneOf 0 0 0 true z0 false) = (Ms.optB x0 x1, 0) := by
  have hc : Ms.check (Ms.oneOf 0 0 0 true z0 false) = true := by
    rw [Ms.oneOf_check 0 0 0 ⟨a1, a2⟩ (.inr rfl) false]; decide
  have hs : (Ms.wAll (Ms.oneOf 0 0 0 true z0 false)).size = 30 := by rw [Ms.oneOf_size]; rfl
  rw [(Ms.enc_yes hc (by rw [hs]; decide)).1, Ms.optB_out]
  have e0 : byteOf (z0 / 256) = x0 := by
    have := byteOf_int (z0 / 256)
    have := x0.toNat_lt; have := x1.toNat_lt
    apply UInt8.toNat_inj.1
    omega
  have e1 : byteOf z0 = x1 := by
    have := byteOf_int z0
    have := x0.toNat_lt; have := x1.toNat_lt
    apply UInt8.toNat_inj.1
    omega
  rw [e0, e1]
theorem slim_opt (z0 : Int) : Slim (Ms.oneOf 0 0 0 true z0 false) := ⟨(slim_one).1, (slim_one).2, few_nil _, few_nil _, few_nil _⟩

theorem opts_dec0 (x0 x1 : UInt8) : Ms.dec (Ms.askB 0 0 2 ++ (Ms.optL x0 x1 0 0 ++ Ms.optL x0 x1 0 0)) = (Ms.hdOf (Ms.askB 0 0 2 ++ (Ms.optL x0 x1 0 0 ++ Ms.optL x0 x1 0 0)), true, false) := by
  unfold Ms.dec
  rw [if_neg (by show ¬ 41 < 12; decide), Ms.opts_twice]
theorem opts_dec1 (x0 x1 : UInt8) : Ms.dec (Ms.askB 1 0 0 ++ Ms.optL x0 x1 0 0) = (Ms.hdOf (Ms.askB 1 0 0 ++ Ms.optL x0 x1 0 0), true, false) := by
  unfold Ms.dec
  rw [if_neg (by show ¬ 30 < 12; decide), Ms.opts_first]
theorem opts_dec2 (x0 x1 : UInt8) : Ms.dec (Ms.askB 0 1 0 ++ Ms.optL x0 x1 0 0) = (Ms.hdOf (Ms.askB 0 1 0 ++ Ms.optL x0 x1 0 0), true, false) := by
  unfold Ms.dec
  rw [if_neg (by show ¬ 30 < 12; decide), Ms.opts_mid]
theorem opts_dec3 (x0 x1 : UInt8) : Ms.dec (Ms.askB 0 0 1 ++ ([1, 98] ++ Ms.optL x0 x1 0 0)) = (Ms.hdOf (Ms.askB 0 0 1 ++ ([1, 98] ++ Ms.optL x0 x1 0 0)), true, false) := by
  unfold Ms.dec
  rw [if_neg (by show ¬ 32 < 12; decide), Ms.opts_name]
theorem opts_dec4 (x0 x1 a b c d : UInt8) : Ms.dec (Ms.askB 0 0 1 ++ (Ms.optL x0 x1 9 4 ++ [a, b, c, d])) = (Ms.oneOf 0 0 0 true (x0.toNat * 256 + x1.toNat : Nat) false, true, true) := by
  unfold Ms.dec
  rw [if_neg (by show ¬ 34 < 12; decide), Ms.opts_more]

set_option maxRecDepth 100000 in
set_option maxHeartbeats 8000000 in
theorem opts_any (AW : ∀ W, Calls Try.prog 11 #[] W fun e w' => e = .returned (.bool true) ∧ Below W.heap.size W w') (z0 z1 : Int) (w : World) (h0 : -9223372036854775808 ≤ z0 ∧ z0 ≤ 9223372036854775807) (h1 : -9223372036854775808 ≤ z1 ∧ z1 ≤ 9223372036854775807) :
    Calls Try.prog 9 #[.int .i64 z0, .int .i64 z1] w fun e w' => e = .returned (.bool true) ∧ Below w.heap.size w w' := by
  have HAW := Lib.hid AW
  clear AW
  have e0 : (0 ≤ z0 ∧ z0 ≤ 65535) ∨ z0 < 0 ∨ (0 ≤ z0 ∧ 65535 < z0) := by omega
  rcases e0 with ⟨a1, a2⟩ | a1 | ⟨a1, a2⟩
  · go_enter Try.func9, Try.ntmps9
    obtain ⟨x0, x1, d0, d1, dz⟩ := byte_pair z0 a1 a2
    have HE := Lib.hid (opts_enc a1 a2 dz)
    have HZ := Lib.hid dz
    clear dz
    go_wp2_with fail
    refine (one_any _).mono ?_
    rintro e w1 ⟨vq, rfl, hL1, b1⟩
    obtain ⟨aq, cq, rfl, _⟩ := hL1.qs.form
    have HL1 := Lib.hid hL1
    clear hL1
    simp only [msgV, oneM, Ms.M.zero, qA, List.length_cons, List.length_nil, Nat.zero_add]
    go_wp2_with fail
    obtain ⟨wA, hwA⟩ : ∃ W, w1.alloc (.cells #[.int .i64 5, .bool false, .int .i64 0, .bool false, .bool false, .bool true, .bool false, .int .i64 0, .slice aq 1 cq, .slice none 0 0, .slice none 0 0, .slice none 0 0, .bool true, .int .i64 z0] 27) = W := ⟨_, rfl⟩
    have bA : Below w1.heap.size w1 wA := by rw [← hwA]; exact (Below.refl _ _).alloc (Nat.le_refl _) _
    have kA : Block wA w1.heap.size #[.int .i64 5, .bool false, .int .i64 0, .bool false, .bool false, .bool true, .bool false, .int .i64 0, .slice aq 1 cq, .slice none 0 0, .slice none 0 0, .slice none 0 0, .bool true, .int .i64 z0] 27 := by rw [← hwA]; exact Block.new _ _ _
    have LA : Lists (Ms.oneOf 0 0 0 true z0 false) (.slice aq 1 cq) (.slice none 0 0) (.slice none 0 0) (.slice none 0 0) wA := by
      have := HL1.out.below bA
      exact ⟨this.qs, this.an, this.ns, this.ad⟩
    have BA := Lib.hid (b1.trans (bA.mono b1.size))
    obtain ⟨R, hR⟩ : ∃ R, w1.heap.size = R := ⟨_, rfl⟩
    have HRW : Hid (w.heap.size ≤ R) := Lib.hid (by rw [← hR]; exact b1.size)
    rw [hwA]
    rw [hR] at kA ⊢
    clear hwA hR bA b1 HL1
    refine (enc_any (Ms.oneOf 0 0 0 true z0 false) _ _ _ _ wA LA (slim_opt z0) (few_nil _) (few_nil _) (few_nil _)).mono ?_
    unfold EncRet
    rw [HE.out]
    rintro e w2 ⟨v, rfl, ho, b2⟩
    rcases ownE_form ho with ⟨rfl, h0⟩ | ⟨g, cap, rfl⟩
    · exact absurd h0 (by simp [Ms.optB])
    have hcap := capOk_own ho _ _ _ rfl
    have HO := Lib.hid ho
    have HK := Lib.hid (kA.below b2)
    have B2 := Lib.hid (BA.out.trans (b2.mono BA.out.size))
    have HL2 := Lib.hid (LA.below b2)
    simp only [show (Ms.optB x0 x1).length = 30 from rfl] at hcap HO ⊢
    clear ho b2 BA kA LA
    have q1 : (convert 22 9 (.slice (some ⟨w2.heap.size, 0, none⟩) 2 2)).run Try.prog (w2.alloc (.cells #[.int .u8 (x0.toNat : Int), .int .u8 (x1.toNat : Int)] 5)) = .ok (.string ⟨#[x0, x1]⟩) (w2.alloc (.cells #[.int .u8 (x0.toNat : Int), .int .u8 (x1.toNat : Int)] 5)) := run_lit_str [x0, x1] _ rfl w2
    have ap1 : (⟨#[0, 0, 41]⟩ : ByteArray) ++ ⟨#[x0, x1]⟩ = ⟨#[0, 0, 41, x0, x1]⟩ := app_bytes [0, 0, 41] [x0, x1]
    have ap2 : (⟨#[0, 0, 41, x0, x1]⟩ : ByteArray) ++ ⟨#[0, 0, 0, 0, 0, 0]⟩ = ⟨(Ms.optL x0 x1 0 0).toArray⟩ := app_bytes [0, 0, 41, x0, x1] [0, 0, 0, 0, 0, 0]
    obtain ⟨O, hO⟩ : ∃ O, (⟨(Ms.optL x0 x1 0 0).toArray⟩ : ByteArray) = O := ⟨_, rfl⟩
    rw [hO] at ap2
    have HOO := Lib.hid hO
    obtain ⟨wC, hwC⟩ : ∃ W, w2.alloc (.cells #[.int .u8 (x0.toNat : Int), .int .u8 (x1.toNat : Int)] 5) = W := ⟨_, rfl⟩
    have bC : Below w2.heap.size w2 wC := by rw [← hwC]; exact (Below.refl _ _).alloc (Nat.le_refl _) _
    have hsC : wC.heap.size = w2.heap.size + 1 := by rw [← hwC]; simp
    have HOC := Lib.hid (ownE_below HO.out bC)
    have HRC := Lib.hid (readB_own HOC.out)
    have q2 : (convert 22 9 (.slice (some ⟨g, 19, none⟩) 11 (cap - 19))).run Try.prog wC = .ok (.string O) wC := by
      rw [← hO]
      have := run_arg_str (readB_drop (k := 19) HRC.out (by show 19 ≤ 30; decide) (cap - 19)) (by simp [Ms.optB])
      rw [Nat.zero_add] at this
      exact this
    rw [← hwC] at q2
    have hE := ownE_new0 wC w2.heap.size (by rw [hsC]; omega)
    rw [hsC, ← hwC] at hE
    have HE0 := Lib.hid hE
    have HRD := Lib.hid (readB_below HRC.out ((Below.refl _ _).alloc (Nat.le_refl _) (.cells #[] 5)))
    have BB0 := Lib.hid (bC.trans ((Below.refl w2.heap.size wC).alloc (by rw [hsC]; omega) (.cells #[] 5)))
    rw [← hwC] at HRD BB0
    have HRO := Lib.hid (readB_own HO.out)
    have HZZ : Hid (((x0.toNat * 256 + x1.toNat : Nat) : Int) = z0) := Lib.hid HZ.out.symm
    clear hE hO bC HO hsC hwC HOC HRC
    go_wp2_with (at_builtin; refine wpList_apdB _ rfl _ _ 22 rfl w2.heap.size 5 Try.underlying22 infoByte _ [] rfl HE0.out _ (Ms.optB x0 x1) rfl HRD.out (by simp [Ms.optB]) (by simp; omega) ?_; intro v5 w5 ho5 ha5 _ _; have BB5 := Lib.hid (BB0.out.trans ha5.below); obtain ⟨g5, cp5, rfl, hfr5, cur5, _, _, hcl5⟩ := own_lit ho5 (by simp [Ms.optB]); replace ho5 : OwnE encB 5 w2.heap.size (.slice (some ⟨g5, 0, none⟩) 30 cp5) (Ms.optB x0 x1) w5 := ho5; replace hcl5 : 30 ≤ cp5 := hcl5; replace hfr5 : ∀ j, j < 30 → w5.frozen? ⟨g5, j, none⟩ = false := hfr5; have HG5 : Hid (w2.heap.size ≤ g5) := Lib.hid (World.ownsRow.lt ho5 g5 rfl).1; have HO5 := Lib.hid ho5; have HF5 := Lib.hid hfr5; clear ho5 ha5 hfr5; simp only [show ([] ++ Ms.optB x0 x1).length = 30 from rfl])
    obtain ⟨hr0, hr1⟩ := roundI_bounds z1 5 (by omega)
    refine (round_any z1 5 w5 (by omega) (by omega) h1.1 h1.2).mono ?_
    rintro e w6 ⟨rfl, rfl⟩
    obtain ⟨r, hr⟩ : ∃ r, roundI z1 5 = r := ⟨_, rfl⟩
    rw [hr] at hr0 hr1 ⊢
    clear HE0 HRD BB0 q1 q2 ap1 ap2 HZ d0 d1 hr
    have hcc : r = 0 ∨ r = 1 ∨ r = 2 ∨ r = 3 ∨ r = 4 := by omega
    clear hr0 hr1
    rcases hcc with rfl | rfl | rfl | rfl | rfl
    · go_wp2_with (at_builtin; refine wpList_apdStr _ rfl _ _ rfl w2.heap.size _ (Ms.optB x0 x1) rfl HO5.out (Ms.optL x0 x1 0 0) (by rw [HOO.out] <;> rfl) (by simp [Ms.optB, Ms.optL]) BB5.out.size ?_; intro v7 w7 ho7 hb7; have BB7 := Lib.hid (BB5.out.trans hb7); obtain ⟨g7, cp7, rfl, hfr7, cur7, _, _, hcl7⟩ := own_lit ho7 (by simp [Ms.optB]); replace ho7 : OwnE encB 5 w2.heap.size (.slice (some ⟨g7, 0, none⟩) 41 cp7) (Ms.optB x0 x1 ++ Ms.optL x0 x1 0 0) w7 := ho7; replace hcl7 : 41 ≤ cp7 := hcl7; have HG7 : Hid (w2.heap.size ≤ g7) := Lib.hid (World.ownsRow.lt ho7 g7 rfl).1; have f7 : w7.frozen? ⟨g7, 11, none⟩ = false := hfr7 11 (show 11 < 41 by decide); have c7 : w7.cell? ⟨g7, 11, none⟩ = some (.int .u8 1) := (ownE_cell ho7 (j := 11) (show 11 < 41 by decide)); have HO7 := Lib.hid ho7; clear ho7 hfr7; simp only [show (Ms.optB x0 x1 ++ Ms.optL x0 x1 0 0).length = 41 from rfl])
      have of : OwnE encB 5 w2.heap.size (.slice (some ⟨g7, 0, none⟩) 41 cp7) (Ms.askB 0 0 2 ++ (Ms.optL x0 x1 0 0 ++ Ms.optL x0 x1 0 0)) (w7.setCell ⟨g7, 11, none⟩ (.int .u8 2)) := ownE_setElem HO7.out (j := 11) (show 11 < 41 by decide) 2
      have hro := readB_own of
      have hca := capOk_own of
      have BBf := Lib.hid (BB7.out.setCell (p := ⟨g7, 11, none⟩) HG7.out (.int .u8 2))
      refine (decode_any (Ms.askB 0 0 2 ++ (Ms.optL x0 x1 0 0 ++ Ms.optL x0 x1 0 0)) _ _ hro hca (by show 41 ≤ 100000; decide)).mono ?_
      unfold DecRet
      rw [opts_dec0]
      rintro e w8 ⟨vq8, va8, vn8, vd8, rfl, hL8, b8⟩
      have B8 := Lib.hid (B2.out.trans ((BBf.out.trans (b8.mono BBf.out.size)).mono B2.out.size))
      obtain ⟨a08, c08, a18, c18, a28, c28, a38, c38, rfl, rfl, rfl, rfl⟩ := lists_form hL8
      clear hro hca BBf hL8 b8
      simp only [msgV, errOf_false]
      go_wp2_with fail
      refine (HAW.out _).mono ?_
      rintro e w9 ⟨rfl, b9⟩
      go_wp2_with fail
      go_ret
      exact ⟨rfl, ((B8.out.alloc B8.out.size _)).trans (b9.mono ((B8.out.alloc B8.out.size _)).size)⟩
    · have f7 := HF5.out 7 (by decide)
      have f11 := HF5.out 11 (by decide)
      have c7 : w5.cell? ⟨g5, 7, none⟩ = some (.int .u8 0) := (ownE_cell HO5.out (j := 7) (show 7 < 30 by decide))
      have c11 : w5.cell? ⟨g5, 11, none⟩ = some (.int .u8 1) := (ownE_cell HO5.out (j := 11) (show 11 < 30 by decide))
      go_wp2_with fail
      have of : OwnE encB 5 w2.heap.size (.slice (some ⟨g5, 0, none⟩) 30 cp5) (Ms.askB 1 0 0 ++ Ms.optL x0 x1 0 0) ((w5.setCell ⟨g5, 7, none⟩ (.int .u8 1)).setCell ⟨g5, 11, none⟩ (.int .u8 0)) := ownE_setElem (ownE_setElem HO5.out (j := 7) (show 7 < 30 by decide) 1) (j := 11) (show 11 < 30 by decide) 0
      have hro := readB_own of
      have hca := capOk_own of
      have BBf := Lib.hid ((BB5.out.setCell (p := ⟨g5, 7, none⟩) HG5.out (.int .u8 1)).setCell (p := ⟨g5, 11, none⟩) HG5.out (.int .u8 0))
      refine (decode_any (Ms.askB 1 0 0 ++ Ms.optL x0 x1 0 0) _ _ hro hca (by show 30 ≤ 100000; decide)).mono ?_
      unfold DecRet
      rw [opts_dec1]
      rintro e w8 ⟨vq8, va8, vn8, vd8, rfl, hL8, b8⟩
      have B8 := Lib.hid (B2.out.trans ((BBf.out.trans (b8.mono BBf.out.size)).mono B2.out.size))
      obtain ⟨a08, c08, a18, c18, a28, c28, a38, c38, rfl, rfl, rfl, rfl⟩ := lists_form hL8
      clear hro hca BBf hL8 b8
      simp only [msgV, errOf_false]
      go_wp2_with fail
      refine (HAW.out _).mono ?_
      rintro e w9 ⟨rfl, b9⟩
      go_wp2_with fail
      go_ret
      exact ⟨rfl, ((B8.out.alloc B8.out.size _)).trans (b9.mono ((B8.out.alloc B8.out.size _)).size)⟩
    · have f9 := HF5.out 9 (by decide)
      have f11 := HF5.out 11 (by decide)
      have c9 : w5.cell? ⟨g5, 9, none⟩ = some (.int .u8 0) := (ownE_cell HO5.out (j := 9) (show 9 < 30 by decide))
      have c11 : w5.cell? ⟨g5, 11, none⟩ = some (.int .u8 1) := (ownE_cell HO5.out (j := 11) (show 11 < 30 by decide))
      go_wp2_with fail
      have of : OwnE encB 5 w2.heap.size (.slice (some ⟨g5, 0, none⟩) 30 cp5) (Ms.askB 0 1 0 ++ Ms.optL x0 x1 0 0) ((w5.setCell ⟨g5, 9, none⟩ (.int .u8 1)).setCell ⟨g5, 11, none⟩ (.int .u8 0)) := ownE_setElem (ownE_setElem HO5.out (j := 9) (show 9 < 30 by decide) 1) (j := 11) (show 11 < 30 by decide) 0
      have hro := readB_own of
      have hca := capOk_own of
      have BBf := Lib.hid ((BB5.out.setCell (p := ⟨g5, 9, none⟩) HG5.out (.int .u8 1)).setCell (p := ⟨g5, 11, none⟩) HG5.out (.int .u8 0))
      refine (decode_any (Ms.askB 0 1 0 ++ Ms.optL x0 x1 0 0) _ _ hro hca (by show 30 ≤ 100000; decide)).mono ?_
      unfold DecRet
      rw [opts_dec2]
      rintro e w8 ⟨vq8, va8, vn8, vd8, rfl, hL8, b8⟩
      have B8 := Lib.hid (B2.out.trans ((BBf.out.trans (b8.mono BBf.out.size)).mono B2.out.size))
      obtain ⟨a08, c08, a18, c18, a28, c28, a38, c38, rfl, rfl, rfl, rfl⟩ := lists_form hL8
      clear hro hca BBf hL8 b8
      simp only [msgV, errOf_false]
      go_wp2_with fail
      refine (HAW.out _).mono ?_
      rintro e w9 ⟨rfl, b9⟩
      go_wp2_with fail
      go_ret
      exact ⟨rfl, ((B8.out.alloc B8.out.size _)).trans (b9.mono ((B8.out.alloc B8.out.size _)).size)⟩
    · have own0 := ownE_new0 w5.drew w2.heap.size BB5.out.size
      have bl0 : Below w5.heap.size w5 (w5.drew.alloc (.cells #[] 5)) := ((Below.refl _ w5).drew).alloc (Nat.le_refl _) _
      have HOWN0 := Lib.hid own0
      have HBL0 := Lib.hid (BB5.out.trans (bl0.mono BB5.out.size))
      have HRQ := Lib.hid (readB_own HO5.out)
      have HRB : Hid (∀ W', Below w2.heap.size w2 W' → ReadB (.slice (some ⟨g, 0, none⟩) 30 cap) (Ms.optB x0 x1) W') := Lib.hid fun W' h => readB_below HRO.out h
      have HTK : Hid (∀ c' W', Below w2.heap.size w2 W' → ReadB (.slice (some ⟨g, 0, none⟩) 19 c') ((Ms.optB x0 x1).take 19) W') := Lib.hid fun c' W' h => readB_take (HRB.out W' h) (show 19 ≤ 30 by decide) c'
      have HDK : Hid (∀ c' W', Below w2.heap.size w2 W' → ReadB (.slice (some ⟨g, 19, none⟩) 11 c') ((Ms.optB x0 x1).drop 19) W') := Lib.hid fun c' W' h => by
        have := readB_drop (HRB.out W' h) (show 19 ≤ 30 by decide) c'
        rw [Nat.zero_add] at this
        exact this
      clear own0 bl0 HRB HRQ
      have h19 : (19 : Int) ≤ (cap : Int) := by omega
      have h19n : ¬ cap = 19 := by omega
      go_wp2_with fail
      go_region_held3 (fun _ => True) (trivial) (first
        | (refine step_apdB (by rfl) (.tmp 79) (.tmp 81) (by rfl) w2.heap.size _ [] (by rfl) (by exact HOWN0.out) _ ((Ms.optB x0 x1).take 19) (by rfl) (by exact HTK.out _ _ HBL0.out) (by simp [Ms.optB]) HBL0.out.size ?_; intro v7 w7 ho7 hb7; have BB7 := Lib.hid (HBL0.out.trans hb7))
        | (refine step_apdStr (by rfl) (.tmp 82) (.const (.string ⟨#[1, 98]⟩)) (by rfl) w2.heap.size _ _ (by rfl) (by exact ho7) [1, 98] (by rfl) (by simp [Ms.optB]) BB7.out.size ?_; intro v8 w8 ho8 hb8; have BB8 := Lib.hid (BB7.out.trans hb8))
        | (refine step_apdB (by rfl) (.tmp 83) (.tmp 85) (by rfl) w2.heap.size _ _ (by rfl) (by exact ho8) _ ((Ms.optB x0 x1).drop 19) (by rfl) (by exact HDK.out _ _ BB8.out) (by simp [Ms.optB]) BB8.out.size ?_; intro v9 w9 ho9 hb9; have BB9 := Lib.hid (BB8.out.trans hb9)))
      all_goals
        clear ho7 ho8 hb7 hb8 hb9
        obtain ⟨g9, cp9, rfl, _, cur9, _, _, hcl9⟩ := own_lit ho9 (by simp [Ms.optB])
        replace ho9 : OwnE encB 5 w2.heap.size (.slice (some ⟨g9, 0, none⟩) 32 cp9) (Ms.askB 0 0 1 ++ ([1, 98] ++ Ms.optL x0 x1 0 0)) w9 := ho9
        have HO9 := Lib.hid ho9
        simp only [show ([] ++ List.take 19 (Ms.optB x0 x1) ++ [1, 98] ++ List.drop 19 (Ms.optB x0 x1)).length = 32 from rfl]
        clear ho9 hcl9
        go_wp2_with fail
        have hro := readB_own HO9.out
        have hca := capOk_own HO9.out
        refine (decode_any (Ms.askB 0 0 1 ++ ([1, 98] ++ Ms.optL x0 x1 0 0)) _ _ hro hca (by show 32 ≤ 100000; decide)).mono ?_
        unfold DecRet
        rw [opts_dec3]
        rintro e w10 ⟨vq8, va8, vn8, vd8, rfl, hL8, b8⟩
        have B8 := Lib.hid (B2.out.trans ((BB9.out.trans (b8.mono BB9.out.size)).mono B2.out.size))
        obtain ⟨a08, c08, a18, c18, a28, c28, a38, c38, rfl, rfl, rfl, rfl⟩ := lists_form hL8
        clear hro hca hL8 b8
        simp only [msgV, errOf_false]
        go_wp2_with fail
        refine (HAW.out _).mono ?_
        rintro e w11 ⟨rfl, b9⟩
        go_wp2_with fail
        go_ret
        exact ⟨rfl, ((B8.out.alloc B8.out.size _)).trans (b9.mono ((B8.out.alloc B8.out.size _)).size)⟩
    · have f24 := HF5.out 24 (by decide)
      have c24 : w5.cell? ⟨g5, 24, none⟩ = some (.int .u8 0) := (ownE_cell HO5.out (j := 24) (show 24 < 30 by decide))
      have f25 := HF5.out 25 (by decide)
      have c25 : w5.cell? ⟨g5, 25, none⟩ = some (.int .u8 0) := (ownE_cell HO5.out (j := 25) (show 25 < 30 by decide))
      have f26 := HF5.out 26 (by decide)
      have c26 : w5.cell? ⟨g5, 26, none⟩ = some (.int .u8 0) := (ownE_cell HO5.out (j := 26) (show 26 < 30 by decide))
      have f27 := HF5.out 27 (by decide)
      have c27 : w5.cell? ⟨g5, 27, none⟩ = some (.int .u8 0) := (ownE_cell HO5.out (j := 27) (show 27 < 30 by decide))
      have o4 : OwnE encB 5 w2.heap.size (.slice (some ⟨g5, 0, none⟩) 30 cp5) (Ms.askB 0 0 1 ++ Ms.optL x0 x1 9 0) ((((w5.setCell ⟨g5, 24, none⟩ (.int .u8 9)).setCell ⟨g5, 25, none⟩ (.int .u8 9)).setCell ⟨g5, 26, none⟩ (.int .u8 9)).setCell ⟨g5, 27, none⟩ (.int .u8 9)) := (ownE_setElem (ownE_setElem (ownE_setElem (ownE_setElem (HO5.out) (j := 24) (show 24 < 30 by decide) 9) (j := 25) (show 25 < 30 by decide) 9) (j := 26) (show 26 < 30 by decide) 9) (j := 27) (show 27 < 30 by decide) 9)
      have HO6 := Lib.hid o4
      have BB6 := Lib.hid ((((BB5.out.setCell (p := ⟨g5, 24, none⟩) HG5.out (.int .u8 9)).setCell (p := ⟨g5, 25, none⟩) HG5.out (.int .u8 9)).setCell (p := ⟨g5, 26, none⟩) HG5.out (.int .u8 9)).setCell (p := ⟨g5, 27, none⟩) HG5.out (.int .u8 9))
      clear o4
      go_wp2_with (at_builtin; refine wpList_apdStr _ rfl _ _ rfl w2.heap.size _ (Ms.askB 0 0 1 ++ Ms.optL x0 x1 9 0) rfl HO6.out [97, 98, 99, 100] rfl (by simp [Ms.askB, Ms.optL]) BB6.out.size ?_; intro v7 w7 ho7 hb7; have BB7 := Lib.hid (BB6.out.trans hb7); obtain ⟨g7, cp7, rfl, hfr7, cur7, _, _, hcl7⟩ := own_lit ho7 (by simp [Ms.askB]); replace ho7 : OwnE encB 5 w2.heap.size (.slice (some ⟨g7, 0, none⟩) 34 cp7) (Ms.askB 0 0 1 ++ Ms.optL x0 x1 9 0 ++ [97, 98, 99, 100]) w7 := ho7; replace hcl7 : 34 ≤ cp7 := hcl7; have HG7 : Hid (w2.heap.size ≤ g7) := Lib.hid (World.ownsRow.lt ho7 g7 rfl).1; have f7 : w7.frozen? ⟨g7, 29, none⟩ = false := hfr7 29 (show 29 < 34 by decide); have c7 : w7.cell? ⟨g7, 29, none⟩ = some (.int .u8 0) := (ownE_cell ho7 (j := 29) (show 29 < 34 by decide)); have HO7 := Lib.hid ho7; clear ho7 hfr7; simp only [show (Ms.askB 0 0 1 ++ Ms.optL x0 x1 9 0 ++ [97, 98, 99, 100]).length = 34 from rfl])
      have of : OwnE encB 5 w2.heap.size (.slice (some ⟨g7, 0, none⟩) 34 cp7) (Ms.askB 0 0 1 ++ (Ms.optL x0 x1 9 4 ++ [97, 98, 99, 100])) (w7.setCell ⟨g7, 29, none⟩ (.int .u8 4)) := ownE_setElem HO7.out (j := 29) (show 29 < 34 by decide) 4
      have hro := readB_own of
      have hca := capOk_own of
      have BBf := Lib.hid (BB7.out.setCell (p := ⟨g7, 29, none⟩) HG7.out (.int .u8 4))
      refine (decode_any (Ms.askB 0 0 1 ++ (Ms.optL x0 x1 9 4 ++ [97, 98, 99, 100])) _ _ hro hca (by show 34 ≤ 100000; decide)).mono ?_
      unfold DecRet
      rw [opts_dec4, HZZ.out]
      rintro e w8 ⟨vq8, va8, vn8, vd8, rfl, hL8, b8⟩
      have bb8 := BBf.out.trans (b8.mono BBf.out.size)
      have B8 := Lib.hid (B2.out.trans (bb8.mono B2.out.size))
      have K8 := HK.out.below bb8
      have L8 := Lib.hid (HL2.out.below bb8)
      have LX := Lib.hid hL8
      obtain ⟨a08, c08, a18, c18, a28, c28, a38, c38, rfl, rfl, rfl, rfl⟩ := lists_form hL8
      have r0 := fun o => (K8.alloc o).cell (i := 0) (v := .int .i64 5) rfl
      have r1 := fun o => (K8.alloc o).cell (i := 1) (v := .bool false) rfl
      have r2 := fun o => (K8.alloc o).cell (i := 2) (v := .int .i64 0) rfl
      have r3 := fun o => (K8.alloc o).cell (i := 3) (v := .bool false) rfl
      have r4 := fun o => (K8.alloc o).cell (i := 4) (v := .bool false) rfl
      have r5 := fun o => (K8.alloc o).cell (i := 5) (v := .bool true) rfl
      have r6 := fun o => (K8.alloc o).cell (i := 6) (v := .bool false) rfl
      have r7 := fun o => (K8.alloc o).cell (i := 7) (v := .int .i64 0) rfl
      have r8 := fun o => (K8.alloc o).cell (i := 8) (v := .slice aq 1 cq) rfl
      have r9 := fun o => (K8.alloc o).cell (i := 9) (v := .slice none 0 0) rfl
      have r10 := fun o => (K8.alloc o).cell (i := 10) (v := .slice none 0 0) rfl
      have r11 := fun o => (K8.alloc o).cell (i := 11) (v := .slice none 0 0) rfl
      have r12 := fun o => (K8.alloc o).cell (i := 12) (v := .bool true) rfl
      have r13 := fun o => (K8.alloc o).cell (i := 13) (v := .int .i64 z0) rfl
      clear hro hca BBf hL8 b8 bb8 K8
      simp only [msgV, errOf_true, Ms.oneOf, List.replicate_zero, List.length_nil, List.length_cons, Nat.zero_add] at r0 ⊢
      go_wp2_with fail
      refine (message_same (Ms.oneOf 0 0 0 true z0 false) (.slice a08 1 c08) (.slice a18 0 c18) (.slice a28 0 c28) (.slice a38 0 c38) (.slice aq 1 cq) (.slice none 0 0) (.slice none 0 0) (.slice none 0 0) _ (LX.out.below ((Below.refl _ _).alloc (Nat.le_refl _) _)) (L8.out.below ((Below.refl _ _).alloc (Nat.le_refl _) _)) ⟨short_one.1, short_one.2, short_one.3, short_one.4⟩).mono ?_
      rintro e w9 ⟨rfl, b9⟩
      have B9 := Lib.hid ((B8.out.alloc B8.out.size _).trans (b9.mono ((B8.out.alloc B8.out.size _)).size))
      clear b9 r0 r1 r2 r3 r4 r5 r6 r7 r8 r9 r10 r11 r12 r13
      go_wp2_with fail
      refine (HAW.out _).mono ?_
      rintro e w11 ⟨rfl, b11⟩
      go_wp2_with fail
      go_ret
      exact ⟨rfl, B9.out.trans (b11.mono B9.out.size)⟩
  all_goals
    go_enter Try.func9, Try.ntmps9
    go_wp2_with fail
    refine (HAW.out _).mono ?_
    rintro e w1 ⟨rfl, b1⟩
    go_wp2_with fail
    go_ret
    exact ⟨rfl, b1⟩
end Go.Proofs.Ytfmghbmbahembaa

/- MessageOpts of package freshetlaw4 (a message's EDNS record is the root's, stands behind all others with its size, and a second one, one elsewhere, or of another name, is refused) returns true at every two ints.
   Conditions: those of the row, none beside. -/
namespace Go.Proofs.Ytfmghbmbahembaa.messageOpts
open Go.ChangeShapes Go.WideShapes Go.ChangeAt Go.RowKit

set_option maxRecDepth 100000 in
theorem contract (H : Type) (enc : TypeId × Value → H) (W : World) (base : Nat) (args : Array Value) (ds gs : List (DataW H)) (before : List MemPlace)
    (hval : ∀ (j : Nat) t v, Try.f9.params[j]? = some t → args[j]? = some v → Value.okWide Try.prog W .any base t v)
    (hW : DataW.Whole enc Try.prog Try.f9.params.toList Rows.messageOptsSpec.vars false W args.toList ds gs before) (_hL : laidMetH Try.prog laidList W) :
    Calls Try.prog 9 args W fun e W' => ∃ v, e = .returned v ∧ Rows.messageOptsSpec.post enc Try.prog Try.f9 false true false false W args v W' := by
  have hW' := hW
  obtain ⟨p, q, hA0, hV, rfl, _, _⟩ := hW
  have hA : DataW.TrodAll enc Try.prog W 0 (fun _ => true) true Try.f9.params.toList args.toList ds p := hA0
  clear hA0
  rw [Try.params9] at hA hval
  obtain ⟨v0, vs0, d0, ds0, p0, q0, hargs0, rfl, rfl, h0, r0⟩ := trodAll_cons hA
  obtain ⟨v1, vs1, d1, ds1, p1, q1, hargs1, rfl, rfl, h1, r1⟩ := trodAll_cons r0
  subst hargs1
  obtain ⟨rfl, rfl, rfl⟩ := trodAll_nil r1
  obtain rfl : args = #[v0, v1] := by cases args; simp_all
  obtain ⟨rfl, rfl⟩ := trodVars_none hV
  obtain ⟨z0, rfl, hz0⟩ := arg_int (hval 0 _ _ rfl rfl) h0
  obtain ⟨z1, rfl, hz1⟩ := arg_int (hval 1 _ _ rfl rfl) h1
  refine (opts_any awake_any z0 z1 W hz0 hz1).mono fun e W' ⟨he, hbl⟩ => ?_
  exact ⟨_, he, law_post hW' rfl hbl rfl rfl (fun t ht => readT t (by rw [Try.params9] at ht; exact (show ∀ t ∈ (#[3, 3] : Array TypeId).toList, t ∈ [9, 3, 4, 22, 27] by decide) t ht))⟩

set_option maxRecDepth 100000 in
theorem reads (os : Os) {H : Type} (enc : TypeId × Value → H) : ∃ places, DataW.whole enc Try.prog ((laidWorld os).forCall (fun _ _ => 0) ⟨#[], #[.int .i64 0, .int .i64 0], []⟩).memory Try.f9.params.toList Rows.messageOptsSpec.vars false (#[.int .i64 0, .int .i64 0] : Array Value).toList 8 = some ([.lit (.int .i64 0), .lit (.int .i64 0)], [], places) :=
  ⟨[], by kernel_rfl⟩

set_option maxRecDepth 100000 in
theorem lifted (os : Os) (started : os.Started) (H : Type) (enc : TypeId × Value → H) (F : Stop.Interp) :
    ReturnsInHanded {} Try.checked os 9 .any ((OpenSpec.ofChange Rows.messageOptsSpec).preRow enc Try.prog Try.f9 Rows.messageOptsRow.domain false Rows.messageOptsRow.laid) (((OpenSpec.ofChange Rows.messageOptsSpec).at F).post enc Try.prog Try.f9 false true false false) := by
  obtain ⟨places, hx⟩ := reads os enc
  refine returnsInHanded_of_row (C := Try.checked) (s := OpenSpec.ofChange Rows.messageOptsSpec) own started (by kernel_rfl) Try.func9
    (witness_row_atRef (enc := enc) (C := Try.checked) false (laidWorld os) #[.int .i64 0, .int .i64 0] rfl (by kernel_rfl) (by kernel_rfl) (by kernel_rfl)
      (OpenSpec.preRow_of_cond 8 hx (by kernel_rfl) (fun k hk => by cases hk) (by kernel_rfl) (laid_met os _))) ?_
  intro W base args ds gs before hval hW _ _ _ hL _ _
  exact contract H enc W base args ds gs before hval hW hL

theorem said : Rows.MessageOptsSaid :=
  OpenClaim.holds_of_cond 9 Try.f9 rfl rfl rfl rfl rfl rfl rfl ⟨rfl, rfl, rfl, rfl, rfl⟩ rfl rfl rfl rfl rfl (by kernel_rfl) Try.func9 (by kernel_rfl)
    (of_decide_eq_true (by kernel_rfl)) (by unfold Func.isWrapper; first | (rw [if_pos (by decide +kernel)]; kernel_rfl) | (rw [if_neg (by decide +kernel)]; exact ⟨rfl, rfl⟩))
    (fun os started H enc _ F => by rw [OpenClaim.pre_eq_preRow]; exact lifted os started H enc F)
end Go.Proofs.Ytfmghbmbahembaa.messageOpts
