/- A Writer of the call's own beside a slice of numbers of the call's own. -/
import Derived.Test.YtipabiiffaipdaaBackMath
import Derived.Test.YtipabiiffaipdaaSet
namespace Go.Proofs.Ytipabiiffaipdaa
open Go.RowKit Go.Shelf Go.Maps
attribute [local go_sem] Oper.semAt_some

def encN (k : Nat) : Value := .int .i64 (k : Int)

theorem run_apdN (w : World) (base : Nat) (ty : TypeId) (v : Value) (l : List Nat) (hown : OwnE encN 3 base v l w) (g2 c : Nat) (x : Nat) (hx : w.cell? ⟨g2, 0, none⟩ = some (encN x))
    (b1 : l.length + 1 ≤ 1000000) (hb : base ≤ w.heap.size) :
    ∃ v' w', (Builtin.append_ #[51, 51] ty #[v, .slice (some ⟨g2, 0, none⟩) 1 c]).run Try.prog w = .ok v' w' ∧ OwnE encN 3 base v' (l ++ [x]) w' ∧ Apd base v (l ≠ []) w w' ∧ (v'.ownBlock = v.ownBlock ∨ v'.ownBlock = some w.heap.size) := by
  have hcc : ∀ j u, (([x] : List Nat).map encN)[j]? = some u → w.cell? ((⟨g2, 0, none⟩ : Addr).add j) = some u := fun j u hj => by
    match j, hj with
    | 0, hj => cases hj; rw [show (⟨g2, 0, none⟩ : Addr).add 0 = ⟨g2, 0, none⟩ from rfl]; exact hx
    | j + 1, hj => simp at hj
  obtain ⟨v', w', hr, ho, ha, _⟩ := run_apd (P := Try.prog) encN (fun _ => rfl) w base 51 ty 3 (.int .i64 0) 8 Try.underlying51 infoInt rfl v l hown ⟨g2, 0, none⟩ 1 c [x] rfl hcc b1 (by omega) hb
  obtain ⟨i, hi, hz0, hz1, hz2⟩ := info_parts infoInt
  obtain ⟨v2, w2, hr2, _, _, _, hloc⟩ := run_append_own_at (P := Try.prog) w base 51 ty 3 i (.int .i64 0) 1 8 Try.underlying51 hi hz0 hz1 hz2 rfl (by omega) v l.length (l.map encN) hown ⟨g2, 0, none⟩ 1 c ([x].map encN) (by simp) hcc (fun u hu => by obtain ⟨x, _, rfl⟩ := List.mem_map.1 hu; rfl) (by unfold maxLen; omega) (by omega) hb
  rw [hr] at hr2
  obtain ⟨rfl, rfl⟩ : v' = v2 ∧ w' = w2 := ⟨(Result.ok.inj hr2).1, (Result.ok.inj hr2).2⟩
  exact ⟨v', w', hr, ho, ha, hloc⟩

/-- A Writer of the call's own, and beside it a slice of numbers. -/
structure WN (B : Nat) (S : WS) (v : Value) (l : List Nat) (w W : World) : Prop where
  form : ∃ f, WrE B S f W ∧ (∀ k, f k → w.heap.size ≤ k ∧ k < W.heap.size) ∧ ∀ g, v.ownBlock = some g → ¬ f g
  below : Below w.heap.size w W
  own : OwnE encN 3 w.heap.size v l W
theorem ownN_turn {f : Nat → Prop} {base : Nat} {v : Value} {l : List Nat} {W W' : World} (h : OwnE encN 3 base v l W) (ht : Turn f W W') (hf : ∀ g, v.ownBlock = some g → ¬ f g) : OwnE encN 3 base v l W' := by
  refine ⟨h.1, ?_⟩
  rcases h.2 with hn | ⟨g, cap, cur, rfl, hbg, hgb, r⟩
  · exact .inl hn
  · exact .inr ⟨g, cap, cur, rfl, hbg, (ht.block g (blk_lt hgb) (hf g rfl)).trans hgb, r⟩
theorem ownN_lt {base : Nat} {v : Value} {l : List Nat} {W : World} (h : OwnE encN 3 base v l W) : ∀ g, v.ownBlock = some g → base ≤ g ∧ g < W.heap.size := World.ownsRow.lt h
theorem WN.act {B : Nat} {S S' : WS} {v : Value} {l : List Nat} {w W W' : World} {e : Ending} (h : WN B S v l w W) {f : Nat → Prop} (hf : (∀ k, f k → w.heap.size ≤ k ∧ k < W.heap.size) ∧ ∀ g, v.ownBlock = some g → ¬ f g) (ha : ActRet B S' f W e W') : e = .returned (.tuple #[]) ∧ WN B S' v l w W' := by
  obtain ⟨he, ht, hw⟩ := ha
  refine ⟨he, ⟨⟨grow f W W', hw, fun k hk => ?_, fun g hg hk => ?_⟩, h.below.trans (ht.below (fun k hk => (hf.1 k hk).1) h.below.size), ownN_turn h.own ht hf.2⟩⟩
  · rcases hk with hk | hk
    · exact ⟨(hf.1 k hk).1, Nat.lt_of_lt_of_le (hf.1 k hk).2 ht.size⟩
    · exact ⟨Nat.le_trans h.below.size hk.1, hk.2⟩
  · rcases hk with hk | hk
    · exact hf.2 g hg hk
    · have := (ownN_lt h.own g hg).2; omega
theorem WN.later {B : Nat} {S : WS} {v : Value} {l : List Nat} {w W W' : World} (h : WN B S v l w W) (hb : Below W.heap.size W W') : WN B S v l w W' := by
  obtain ⟨f, h1, h2, h3⟩ := h.form
  exact ⟨⟨f, h1.below hb, fun k hk => ⟨(h2 k hk).1, Nat.lt_of_lt_of_le (h2 k hk).2 hb.size⟩, h3⟩, below_trans h.below hb, ownE_below h.own hb⟩
theorem len_WN {B : Nat} {S : WS} {v : Value} {l : List Nat} {w W : World} (h : WN B S v l w W) : Calls Try.prog 23 #[.pointer (some ⟨B, 0, none⟩)] W fun e w' => e = .returned (.int .i64 (S.size : Int)) ∧ W = w' := by
  obtain ⟨f, h1, _⟩ := h.form
  exact len_any B S f W h1
theorem name_WN {B : Nat} {S : WS} {v : Value} {l : List Nat} {w W : World} (h : WN B S v l w W) (n : List UInt8) (sq : Bool) (hn : n.length ≤ 100000) (hl : S.size ≤ 800000) (ht : S.tab.length ≤ 800000) (hT : TabOk S) :
    Calls Try.prog 19 #[.pointer (some ⟨B, 0, none⟩), .string ⟨n.toArray⟩, .bool sq] W fun e w' => e = .returned (.tuple #[]) ∧ WN B (S.name n sq) v l w w' := by
  obtain ⟨f, h1, h2⟩ := h.form
  exact (name_any B S f n sq W h1 hn hl ht hT).mono fun e w' ha => h.act h2 ha
theorem set_WN {B : Nat} {S : WS} {v : Value} {l : List Nat} {w W : World} (h : WN B S v l w W) (z n : Int) (hl : S.size ≤ 1000000) (hz1 : -9223372036854775808 ≤ z) (hz2 : z ≤ 9223372036854775807) :
    Calls Try.prog 26 #[.pointer (some ⟨B, 0, none⟩), .int .i64 z, .int .i64 n] W fun e w' => e = .returned (.tuple #[]) ∧ WN B (S.set z n) v l w w' := by
  obtain ⟨f, h1, h2⟩ := h.form
  exact (set_any B S f z n W h1 hl hz1 hz2).mono fun e w' ha => h.act h2 ha
theorem out_WN {B : Nat} {S : WS} {v : Value} {l : List Nat} {w W : World} (h : WN B S v l w W) (hl : S.size ≤ 1000000) : Calls Try.prog 21 #[.pointer (some ⟨B, 0, none⟩)] W (OutRet S W) := by
  obtain ⟨f, h1, _⟩ := h.form
  exact out_any B S f W h1 hl
/-- append(at, x). -/
theorem wpList_apdWN {B : Nat} {S : WS} {v : Value} {l : List Nat} {w0 : World} (w : World) {ops : Array Oper} {rest : List Oper} {o : Oper} {a : Act} {Q : Exit → Act → World → Prop} (hg : o.guard = none) (s x : Operand)
    (hop : o.op = Op.call { callee := Callee.builtin Builtin.append, args := #[s, x], argTypes := #[51, 51] })
    (h : WN B S v l w0 w) (hs : a.eval s = v) (g2 c k : Nat) (hx : a.eval x = .slice (some ⟨g2, 0, none⟩) 1 c) (hc : w.cell? ⟨g2, 0, none⟩ = some (encN k)) (b1 : l.length + 1 ≤ 1000000)
    (hK : ∀ v' w', WN B S v' (l ++ [k]) w0 w' → wpList Try.prog ops Q rest (a.put o.dst v') w') :
    wpList Try.prog ops Q (o :: rest) a w := by
  refine wpList_plain hg fun K hK' => ?_
  obtain ⟨v', w', hrun, r1, r2, r3⟩ := run_apdN w w0.heap.size o.type v l h.own g2 c k hc b1 h.below.size
  unfold Oper.wp
  simp [execOp, hop, resolve, invoke, builtin, hs, hx, hrun, Result.andThen]
  refine hK' _ _ (hK v' w' ⟨?_, h.below.trans r2.below, r1⟩)
  obtain ⟨f, h1, h2, h3⟩ := h.form
  have hsz : w.heap.size ≤ w'.heap.size := r2.below.size
  refine ⟨f, h1.kept (fun k hk hf => ?_), fun k hk => ⟨(h2 k hk).1, Nat.lt_of_lt_of_le (h2 k hk).2 hsz⟩, fun g hg' hf => ?_⟩
  · have hxk : w.heap[k]? = some w.heap[k] := Array.getElem?_eq_getElem hk
    rw [r2.other k _ (fun e => h3 k e.symm hf) hxk, hxk]
  · rcases r3 with e | e
    · exact h3 g (by rw [← e]; exact hg') hf
    · rw [hg'] at e
      have := Option.some.inj e
      have := (h2 g hf).2
      omega
theorem ownN_cell {base : Nat} {v : Value} {l : List Nat} {W : World} (h : OwnE encN 3 base v l W) {j k : Nat} (hj : l[j]? = some k) : ∃ g cap, v = .slice (some ⟨g, 0, none⟩) l.length cap ∧ W.cell? ⟨g, 0 + j, none⟩ = some (.int .i64 (k : Int)) := by
  obtain ⟨hl, rfl⟩ := List.getElem?_eq_some_iff.1 hj
  rcases ownE_form h with ⟨_, rfl⟩ | ⟨g, cap, rfl⟩
  · simp at hl
  · exact ⟨g, cap, rfl, ownE_cell h hl⟩

/-- A slice of booleans. -/
structure ReadO (v : Value) (l : List Bool) (W : World) : Prop where
  form : ∃ ao cap, v = .slice ao l.length cap ∧ ∀ (j : Nat) (h : j < l.length), ∃ b off, ao = some ⟨b, off, none⟩ ∧ W.cell? ⟨b, off + j, none⟩ = some (.bool l[j])
/-- What was written is read: of each name its place, and where the next one lies. -/
def Back (L : List (List UInt8)) (ats : List Nat) (out : List UInt8) (last : Nat) : Prop :=
  ∀ j p n, ats[j]? = some p → L[j]? = some n → Nm.valid n = true ∧ ∃ e, (ats ++ [last])[j + 1]? = some e ∧ Rd out p p n e
theorem back_nil (L : List (List UInt8)) (out : List UInt8) (last : Nat) : Back L [] out last := fun j p n h _ => by simp at h
theorem Back.step {L : List (List UInt8)} {ats : List Nat} {out out' : List UInt8} {last last' : Nat} (h : Back L ats out last) (hs : Sub out out') {n : List UInt8} (hn : L[ats.length]? = some n) (hv : Nm.valid n = true) (hr : Rd out' last last n last') : Back L (ats ++ [last]) out' last' := by
  intro j p m hj hm
  by_cases hlt : j < ats.length
  · rw [List.getElem?_append_left hlt] at hj
    obtain ⟨h1, e, h2, h3⟩ := h j p m hj hm
    refine ⟨h1, e, ?_, h3.sub hs⟩
    rw [List.getElem?_append_left (by simp; omega)]; exact h2
  · by_cases hje : j = ats.length
    · subst hje
      rw [List.getElem?_append_right (Nat.le_refl _)] at hj
      simp at hj
      subst hj
      rw [hn] at hm
      cases hm
      refine ⟨hv, last', ?_, hr⟩
      rw [List.getElem?_append_right (by simp)]
      simp
    · rw [List.getElem?_eq_none (by simp; omega)] at hj
      cases hj
theorem Back.sub {L : List (List UInt8)} {ats : List Nat} {out out' : List UInt8} {last : Nat} (h : Back L ats out last) (hs : Sub out out') : Back L ats out' last := fun j p n hj hn => by
  obtain ⟨h1, e, h2, h3⟩ := h j p n hj hn
  exact ⟨h1, e, h2, h3.sub hs⟩
end Go.Proofs.Ytipabiiffaipdaa
