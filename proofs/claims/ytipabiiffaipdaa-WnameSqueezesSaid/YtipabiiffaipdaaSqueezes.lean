/- WnameSqueezes: its walk. -/
import Derived.Test.YtipabiiffaipdaaAwake
import Derived.Test.YtipabiiffaipdaaSqMath
import Derived.Test.YtipabiiffaipdaaRValid
import Derived.Test.YtipabiiffaipdaaFrame
namespace Go.Proofs.Ytipabiiffaipdaa
open Go.RowKit Go.Shelf Go.Maps
attribute [local go_sem] Oper.semAt_some

theorem valid_ahead {n m : List UInt8} (hn : Nm.valid n = true) (h1 : 1 ≤ m.length) (h2 : m.length ≤ 63) (h3 : 1 + m.length + n.length ≤ 255) : Nm.valid (UInt8.ofNat m.length :: m ++ n) = true ∧ Nm.labsD (UInt8.ofNat m.length :: m ++ n) = m :: Nm.labsD n := by
  obtain ⟨_, hm, hg, _⟩ := Nm.labs_of_valid hn
  have e : UInt8.ofNat m.length :: m ++ n = Nm.made (m :: Nm.labsD n) := by
    conv => lhs; rw [hm]
    rfl
  have g : Nm.good (m :: Nm.labsD n) := by
    intro x hx
    rcases List.mem_cons.1 hx with rfl | hx
    · exact ⟨h1, h2⟩
    · exact hg x hx
  have hl : (Nm.made (m :: Nm.labsD n)).length ≤ 255 := by rw [← e]; simp; omega
  rw [e]
  exact ⟨Nm.valid_made g hl, Nm.labsD_of_made g hl⟩
theorem name_true {S : WS} {n : List UInt8} (hn : Nm.valid n = true) : S.name n true = S.sq (Nm.labsD n) := by
  unfold WS.name
  rw [if_neg (by simp [hn]), if_pos rfl]

/-- A Writer of the call's own. -/
def WB (B : Nat) (S : WS) (w W : World) : Prop := ∃ f, WrE B S f W ∧ (∀ k, f k → w.heap.size ≤ k) ∧ Below w.heap.size w W
theorem WB.act {B : Nat} {S' : WS} {w W W' : World} {f : Nat → Prop} {e : Ending} (ha : ActRet B S' f W e W') (hf : ∀ k, f k → w.heap.size ≤ k) (hb : Below w.heap.size w W) : e = .returned (.tuple #[]) ∧ WB B S' w W' :=
  ⟨ha.1, grow f W W', ha.2.2, fun k hk => hk.elim (hf k) (fun h => Nat.le_trans hb.size h.1), hb.trans (ha.2.1.below hf hb.size)⟩
theorem WB.below {B : Nat} {S : WS} {w W W' : World} (h : WB B S w W) (hb : Below W.heap.size W W') : WB B S w W' := by
  obtain ⟨f, h1, h2, h3⟩ := h
  exact ⟨f, h1.below hb, h2, below_trans h3 hb⟩

set_option maxRecDepth 100000 in
set_option maxHeartbeats 8000000 in
theorem squeezes_any (n more : List UInt8) (times : Int) (w : World) (hn : n.length ≤ 9223372036854775807) (hm : more.length ≤ 9223372036854775807) :
    Calls Try.prog 7 #[.string ⟨n.toArray⟩, .string ⟨more.toArray⟩, .int .i64 times] w fun e w' => e = .returned (.bool true) ∧ Below w.heap.size w w' := by
  obtain ⟨xv, hxv⟩ : ∃ x, Nm.valid n = x := ⟨_, rfl⟩
  have HXV := Lib.hid hxv
  by_cases hg : 150 < n.length ∨ xv = false ∨ n = [0] ∨ more.length < 1 ∨ 60 < more.length ∨ times < 1 ∨ 10 < times
  · have hcase : 150 < n.length ∨ (n.length ≤ 150 ∧ xv = false) ∨ (n.length ≤ 150 ∧ xv = true ∧ n = [0]) ∨ (n.length ≤ 150 ∧ xv = true ∧ n ≠ [0] ∧ more = []) ∨ (n.length ≤ 150 ∧ xv = true ∧ n ≠ [0] ∧ 1 ≤ more.length ∧ 60 < more.length) ∨ (n.length ≤ 150 ∧ xv = true ∧ n ≠ [0] ∧ 1 ≤ more.length ∧ more.length ≤ 60 ∧ times < 1) ∨ (n.length ≤ 150 ∧ xv = true ∧ n ≠ [0] ∧ 1 ≤ more.length ∧ more.length ≤ 60 ∧ 1 ≤ times ∧ 10 < times) := by
      by_cases c1 : 150 < n.length
      · exact .inl c1
      · cases xv
        · exact .inr (.inl ⟨by omega, rfl⟩)
        · by_cases c2 : n = [0]
          · exact .inr (.inr (.inl ⟨by omega, rfl, c2⟩))
          · by_cases c3 : more.length < 1
            · exact .inr (.inr (.inr (.inl ⟨by omega, rfl, c2, List.length_eq_zero_iff.1 (by omega)⟩)))
            · by_cases c4 : 60 < more.length
              · exact .inr (.inr (.inr (.inr (.inl ⟨by omega, rfl, c2, by omega, c4⟩))))
              · by_cases c5 : times < 1
                · exact .inr (.inr (.inr (.inr (.inr (.inl ⟨by omega, rfl, c2, by omega, by omega, c5⟩)))))
                · exact .inr (.inr (.inr (.inr (.inr (.inr ⟨by omega, rfl, c2, by omega, by omega, by omega, by simp_all; omega⟩)))))
    clear hg hxv
    rcases hcase with c1 | ⟨c1, rfl⟩ | ⟨c1, rfl, rfl⟩ | ⟨c1, rfl, c2, rfl⟩ | ⟨c1, rfl, c2, c3, c4⟩ | ⟨c1, rfl, c2, c3, c4, c5⟩ | ⟨c1, rfl, c2, c3, c4, c5, c6⟩
    · go_enter Try.func7, Try.ntmps7
      go_wp2_with (first
        | (go_at_call 25; refine (rvalid_any _ _ (by first | omega | (simp; done))).mono ?_; rw [HXV.out]; rintro e w1 ⟨rfl, b1⟩)
        | (go_at_call 9; refine (awake_any _).mono ?_; rintro e w2 ⟨rfl, b2⟩))
      go_ret
      exact ⟨rfl, b2⟩
    · go_enter Try.func7, Try.ntmps7
      go_wp2_with (first
        | (go_at_call 25; refine (rvalid_any _ _ (by first | omega | (simp; done))).mono ?_; rw [HXV.out]; rintro e w1 ⟨rfl, b1⟩)
        | (go_at_call 9; refine (awake_any _).mono ?_; rintro e w2 ⟨rfl, b2⟩))
      go_ret
      exact ⟨rfl, below_trans b1 b2⟩
    · go_enter Try.func7, Try.ntmps7
      go_wp2_with (first
        | (go_at_call 25; refine (rvalid_any _ _ (by first | omega | (simp; done))).mono ?_; rw [HXV.out]; rintro e w1 ⟨rfl, b1⟩)
        | (go_at_call 9; refine (awake_any _).mono ?_; rintro e w2 ⟨rfl, b2⟩))
      go_ret
      exact ⟨rfl, below_trans b1 b2⟩
    all_goals
      have hne : (n == [0]) = false := by simpa using c2
      clear c2
      go_enter Try.func7, Try.ntmps7
      go_wp2_with (first
        | (go_at_call 25; refine (rvalid_any _ _ (by first | omega | (simp; done))).mono ?_; rw [HXV.out]; rintro e w1 ⟨rfl, b1⟩)
        | (go_at_call 9; refine (awake_any _).mono ?_; rintro e w2 ⟨rfl, b2⟩))
      go_ret
      exact ⟨rfl, below_trans b1 b2⟩
  · have c1 : n.length ≤ 150 := by omega
    have c2 : xv = true := by cases xv <;> simp_all
    subst c2
    have c3 : n ≠ [0] := fun e => hg (.inr (.inr (.inl e)))
    have c4 : 1 ≤ more.length := by
      rcases Nat.lt_or_ge more.length 1 with h | h
      · exact absurd (.inr (.inr (.inr (.inl h)))) hg
      · exact h
    have c5 : more.length ≤ 60 := by
      rcases Nat.lt_or_ge 60 more.length with h | h
      · exact absurd (.inr (.inr (.inr (.inr (.inl h))))) hg
      · exact h
    have c6 : 1 ≤ times := by
      rcases Int.lt_or_le times 1 with h | h
      · exact absurd (.inr (.inr (.inr (.inr (.inr (.inl h)))))) hg
      · exact h
    have c7 : times ≤ 10 := by
      rcases Int.lt_or_le 10 times with h | h
      · exact absurd (.inr (.inr (.inr (.inr (.inr (.inr h)))))) hg
      · exact h
    have hne : (n == [0]) = false := by simpa using c3
    obtain ⟨_, hmade, hgood, hlen⟩ := Nm.labs_of_valid hxv
    obtain ⟨l, r, hlr⟩ : ∃ l r, Nm.labsD n = l :: r := by
      cases h : Nm.labsD n with
      | nil => rw [h] at hmade; exact absurd hmade c3
      | cons l r => exact ⟨l, r, rfl⟩
    have henc : Nm.encL (Nm.labsD n) + 1 = n.length := by conv => rhs; rw [hmade, Nm.made_length]
    obtain ⟨hv2, hl2⟩ := valid_ahead hxv c4 (by omega) (by omega)
    obtain ⟨e1, e2, e3, e4⟩ := sq_fresh (Nm.labsD n) (WS.new 4000) (fun t _ _ => rfl) (by simp only [WS.new]; omega)
    have e2' := e2 (l :: r) (by rw [hlr]; exact List.suffix_refl _) (by simp)
    have e3' := e3 (Nm.made (more :: l :: r)) (by rw [hlr, Nm.made_length, Nm.made_length]; simp only [Nm.encL]; omega)
    have hT1 : TabOk ((WS.new 4000).name n true) := tabOk_name (tabOk_new _) _ _
    rw [← name_true hxv] at e1 e2' e3' e4
    obtain ⟨S1, hS1⟩ : ∃ S1, S1 = (WS.new 4000).name n true := ⟨_, rfl⟩
    rw [← hS1] at e1 e2' e3' e4 hT1
    have s1 : S1.size = n.length := by rw [e1]; simp only [WS.new]; omega
    have s2 : S1.tab.length ≤ 150 := by
      have := @Nm.length_le_encL (Nm.labsD n)
      simp only [WS.new, List.length_nil] at e4
      omega
    have hstep : ∀ S : WS, (look (Nm.made (l :: r)) S.tab).isSome = true → (S.name n true).size = S.size + 2 ∧ (S.name n true).tab = S.tab := fun S h => by
      rw [name_true hxv, hlr]; exact sq_known h
    have HSTEP := Lib.hid hstep
    have HT1 := Lib.hid hT1
    have HS1 := Lib.hid hS1
    have HE2 := Lib.hid e2'
    have HE3 := Lib.hid e3'
    have HZ1 := Lib.hid s1
    have HV2 := Lib.hid hv2
    have HL2 := Lib.hid hl2
    have HLR := Lib.hid hlr
    have HNE := Lib.hid c3
    clear hmade hgood henc hlr hv2 hl2 e1 e2 e3 e2' e3' e4 hT1 hS1 s1 hstep hxv c3 hg
    go_enter Try.func7, Try.ntmps7
    go_wp2_with (go_at_call 25; refine (rvalid_any _ _ (by omega)).mono ?_; rw [HXV.out]; rintro e w0 ⟨rfl, b0⟩)
    refine (new_any 4000 _).mono ?_
    rintro e w1 ⟨rfl, b1, hw1, hz1⟩
    have hWB1 : WB w0.heap.size (WS.new 4000) w w1 := ⟨_, hw1, fun k hk => by have h : k = w0.heap.size := hk; have := b0.size; omega, below_trans b0 b1⟩
    have HWB1 := Lib.hid hWB1
    clear hw1 hWB1 b1 hz1
    go_wp2_with fail
    obtain ⟨f1, hf1, hf2, hf3⟩ := HWB1.out
    refine (name_any _ _ _ n true _ hf1 (by omega) (by simp [WS.new]) (by simp [WS.new]) (tabOk_new _)).mono ?_
    intro e w2 ha
    obtain ⟨rfl, hWB2⟩ := WB.act ha hf2 hf3
    rw [← HS1.out] at hWB2
    have HWB2 := Lib.hid hWB2
    clear hf1 hf2 hf3 ha hWB2
    go_wp2_with (go_at_call 23; refine (len_any _ _ _ _ HWB2.out.choose_spec.1).mono ?_; rw [HZ1.out]; rintro e w' ⟨rfl, rfl⟩)
    go_loopw [8] (fun i wr => ∃ (k : Nat) (S : WS), i = .int .i64 (k : Int) ∧ (k : Int) ≤ times ∧ Hid (S.size = n.length + 2 * k ∧ S.tab = S1.tab ∧ TabOk S) ∧ Hid (WB w0.heap.size S w wr)) (fun i _ => (times - intOf i).toNat)
    case atStart => exact ⟨0, S1, rfl, by omega, Lib.hid ⟨by rw [HZ1.out]; rfl, rfl, HT1.out⟩, HWB2⟩
    case round =>
      obtain ⟨k, S, rfl, hk, hS, hB⟩ := hrel
      by_cases hlt : (k : Int) < times
      · have hsz : S.size ≤ 200 := by rw [hS.out.1]; omega
        have hn2 := Lib.hid (HSTEP.out S (by rw [hS.out.2.1]; exact HE2.out))
        have htb : S.tab.length ≤ 150 := by rw [hS.out.2.1]; exact s2
        go_wp2_with (go_at_call 19; obtain ⟨f1, hf1, hf2, hf3⟩ := hB.out; refine (name_any _ _ _ n true _ hf1 (by omega) (by omega) (by omega) hS.out.2.2).mono ?_; intro e w3 ha; obtain ⟨rfl, hWB3⟩ := WB.act ha hf2 hf3; have HWB3 := Lib.hid hWB3; clear hf1 hf2 hf3 ha hWB3)
        exact ⟨⟨k + 1, S.name n true, by go_num, by omega, Lib.hid ⟨by rw [hn2.out.1, hS.out.1]; omega, by rw [hn2.out.2, hS.out.2.1], tabOk_name hS.out.2.2 _ _⟩, HWB3⟩, by simp [intOf]; omega⟩
      · obtain rfl : times = (k : Int) := by omega
        have hsz : ((S.size : Nat) : Int) = (n.length : Int) + 2 * (k : Int) := by rw [hS.out.1]; omega
        have HSZ := Lib.hid hsz
        clear hsz
        obtain ⟨X1, hX1⟩ : ∃ X, X = UInt8.ofNat more.length :: more := ⟨_, rfl⟩
        obtain ⟨o, ho⟩ : ∃ o, o = X1 ++ n := ⟨_, rfl⟩
        have happ1 : (⟨#[UInt8.ofNat more.length]⟩ : ByteArray) ++ ⟨more.toArray⟩ = ⟨X1.toArray⟩ := by rw [hX1]; exact app_bytes [UInt8.ofNat more.length] more
        have happ2 : (⟨X1.toArray⟩ : ByteArray) ++ ⟨n.toArray⟩ = ⟨o.toArray⟩ := by rw [ho]; exact app_bytes X1 n
        have hx1 : X1.length ≤ 61 := by rw [hX1]; simp; omega
        have ho1 : o.length ≤ 211 := by rw [ho, List.length_append]; omega
        have hu8 : encB (UInt8.ofNat more.length) = .int .u8 (more.length : Int) := by unfold encB; rw [Nm.ofNat_toNat (by omega)]
        have hcv := run_lit_str [UInt8.ofNat more.length] [.int .u8 (more.length : Int)] (by simp [hu8]) wr
        simp only [List.length_cons, List.length_nil, Nat.zero_add] at hcv
        have hvo : Nm.valid o = true ∧ Nm.labsD o = more :: l :: r := by rw [ho, hX1, ← HLR.out]; exact ⟨HV2.out, HL2.out⟩
        have hah := sq_ahead (S := S) (m := more) (l := l) (r := r) (by rw [hS.out.2.1, HE3.out]; rfl) (by rw [hS.out.2.1]; exact HE2.out) (by rw [hS.out.1]; omega)
        rw [← hvo.2, ← name_true hvo.1] at hah
        have hkn := sq_known (S := S.name o true) (l := more) (r := l :: r) (by rw [← hvo.2]; exact hah.2.1)
        rw [← hvo.2, ← name_true hvo.1] at hkn
        have hrt := sq_root ((S.name o true).name o true)
        rw [show (([] : List (List UInt8))) = Nm.labsD [0] from by decide, ← name_true (n := [0]) (by decide)] at hrt
        have hsA : (((S.name o true).size : Nat) : Int) = (n.length : Int) + 2 * (k : Int) + 1 + (more.length : Int) + 2 := by rw [hah.1, hS.out.1]; omega
        have hsB : (((((S.name o true).name o true).name [0] true).size : Nat) : Int) = (n.length : Int) + 2 * (k : Int) + 1 + (more.length : Int) + 2 + 3 := by rw [hrt.1, hkn.1, hah.1, hS.out.1]; omega
        have z0 : S.size ≤ 300 := by rw [hS.out.1]; omega
        have z1 : (S.name o true).size ≤ 300 := by omega
        have z2 : ((S.name o true).name o true).size ≤ 300 := by rw [hkn.1]; omega
        have y0 : S.tab.length ≤ 150 := by rw [hS.out.2.1]; exact s2
        have y1 : (S.name o true).tab.length ≤ 151 := by have := hah.2.2; omega
        have y2 : ((S.name o true).name o true).tab.length ≤ 151 := by rw [hkn.2]; exact y1
        have HSA := Lib.hid hsA
        have HSB := Lib.hid hsB
        have Z := Lib.hid (And.intro (And.intro z0 z1) z2)
        have Y := Lib.hid (And.intro (And.intro y0 y1) y2)
        clear hX1 ho hu8 hvo hah hkn hrt hsA hsB z0 z1 z2 y0 y1 y2
        go_wp2_with (go_at_call 23; refine (len_any _ _ _ _ hB.out.choose_spec.1).mono ?_; rw [HSZ.out]; rintro e w' ⟨rfl, rfl⟩)
        have hWB1 := Lib.hid (hB.out.below ((Below.refl _ wr).alloc (Nat.le_refl _) (.cells #[.int .u8 (more.length : Int)] 5)))
        refine (len_any _ _ _ _ hWB1.out.choose_spec.1).mono ?_
        rw [HSZ.out]
        rintro e w' ⟨rfl, rfl⟩
        go_wp2_with fail
        obtain ⟨f1, hf1, hf2, hf3⟩ := hWB1.out
        refine (name_any _ _ _ o true _ hf1 (by omega) (by have := Z.out.1.1; omega) (by have := Y.out.1.1; omega) hS.out.2.2).mono ?_
        intro e w3 ha
        obtain ⟨rfl, hWB3⟩ := WB.act ha hf2 hf3
        have HWB3 := Lib.hid hWB3
        clear hf1 hf2 hf3 ha hWB3 hWB1
        go_wp2_with fail
        refine (len_any _ _ _ _ HWB3.out.choose_spec.1).mono ?_
        rw [HSA.out]
        rintro e w' ⟨rfl, rfl⟩
        go_wp2_with fail
        refine (len_any _ _ _ _ HWB3.out.choose_spec.1).mono ?_
        rw [HSA.out]
        rintro e w' ⟨rfl, rfl⟩
        go_wp2_with fail
        obtain ⟨f1, hf1, hf2, hf3⟩ := HWB3.out
        refine (name_any _ _ _ o true _ hf1 (by omega) (by have := Z.out.1.2; omega) (by have := Y.out.1.2; omega) (tabOk_name hS.out.2.2 _ _)).mono ?_
        intro e w4 ha
        obtain ⟨rfl, hWB4⟩ := WB.act ha hf2 hf3
        have HWB4 := Lib.hid hWB4
        clear hf1 hf2 hf3 ha hWB4
        go_wp2_with fail
        obtain ⟨f1, hf1, hf2, hf3⟩ := HWB4.out
        refine (name_any _ _ _ [0] true _ hf1 (by simp) (by have := Z.out.2; omega) (by have := Y.out.2; omega) (tabOk_name (tabOk_name hS.out.2.2 _ _) _ _)).mono ?_
        intro e w5 ha
        obtain ⟨rfl, hWB5⟩ := WB.act ha hf2 hf3
        have HWB5 := Lib.hid hWB5
        clear hf1 hf2 hf3 ha hWB5
        go_wp2_with fail
        refine (len_any _ _ _ _ HWB5.out.choose_spec.1).mono ?_
        rw [HSB.out]
        rintro e w' ⟨rfl, rfl⟩
        go_wp2_with fail
        refine (awake_any _).mono ?_
        rintro e w6 ⟨rfl, b6⟩
        go_wp2
        go_ret
        exact ⟨rfl, below_trans HWB5.out.choose_spec.2.2 b6⟩
end Go.Proofs.Ytipabiiffaipdaa
