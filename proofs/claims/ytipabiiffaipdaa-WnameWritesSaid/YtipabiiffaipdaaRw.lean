/- What lies in memory for the document's own Writer. -/
import Derived.Test.YtipabiiffaipdaaName
import Derived.Test.YtipabiiffaipdaaWrMath
namespace Go.Proofs.Ytipabiiffaipdaa
open Go.RowKit Go.Shelf Go.Maps
attribute [local go_sem] Oper.semAt_some

theorem run_apdG {P : Program} {α : Type} (enc : α → Value) (henc : ∀ x, (enc x).oneCell' = true) (w : World) (base : Nat) (t ty e : TypeId) (z : Value) (bytes : Nat) (h1 : P.underlying t = some (.slice e))
    (h2 : (P.info? e).map (fun i => (i.zero, i.size, i.bytes)) = some (some z, 1, bytes)) (hz : z.cells.size = 1) (v : Value) (l : List α) (hown : OwnE enc e base v l w) (ad : Addr) (m c : Nat) (news : List α) (hm : news.length = m)
    (hc : ∀ j u, (news.map enc)[j]? = some u → w.cell? (ad.add j) = some u) (b1 : l.length + m ≤ 1000000) (b2 : bytes ≤ 1000) (hb : base ≤ w.heap.size) :
    ∃ v' w', (Builtin.append_ #[t, t] ty #[v, .slice (some ad) m c]).run P w = .ok v' w' ∧ OwnE enc e base v' (l ++ news) w' ∧ Apd base v (l ≠ []) w w' ∧ (v' = .slice none 0 0 ↔ v = .slice none 0 0 ∧ m = 0) ∧ (v'.ownBlock = v.ownBlock ∨ v'.ownBlock = some w.heap.size) := by
  subst hm
  obtain ⟨i, hi, hz0, hz1, hz2⟩ := info_parts h2
  have hlim : (l.length + news.length) * bytes ≤ 140737488355328 := Nat.le_trans (Nat.mul_le_mul b1 b2) (by decide)
  obtain ⟨v', w', hr, ho, ha, hnil⟩ := run_apd (P := P) enc henc w base t ty e z bytes h1 h2 hz v l hown ad news.length c news rfl hc b1 b2 hb
  obtain ⟨v2, w2, hr2, _, _, _, hloc⟩ := run_append_own_at (P := P) w base t ty e i z 1 bytes h1 hi hz0 hz1 hz2 hz (by omega) v l.length (l.map enc) hown ad news.length c (news.map enc) (by simp) hc (fun u hu => by obtain ⟨x, _, rfl⟩ := List.mem_map.1 hu; exact henc x) (by unfold maxLen; omega) hlim hb
  rw [hr] at hr2
  obtain ⟨rfl, rfl⟩ : v' = v2 ∧ w' = w2 := ⟨(Result.ok.inj hr2).1, (Result.ok.inj hr2).2⟩
  exact ⟨v', w', hr, ho, ha, hnil, hloc⟩
/-- append(s, ""), or another one string that was just laid down. -/
theorem wpList_apdS {P : Program} (w : World) {ops : Array Oper} {rest : List Oper} {o : Oper} {a : Act} {Q : Exit → Act → World → Prop} (hg : o.guard = none) (s x : Operand) (t : TypeId)
    (hop : o.op = Op.call { callee := Callee.builtin Builtin.append, args := #[s, x], argTypes := #[t, t] })
    (base : Nat) (e : TypeId) (h1 : P.underlying t = some (.slice e))
    (h2 : (P.info? e).map (fun i => (i.zero, i.size, i.bytes)) = some (some (.string ⟨#[]⟩), 1, 16)) (v : Value) (l : List (List UInt8)) (hs : a.eval s = v) (hown : OwnE encS e base v l w) (g2 c : Nat) (n : List UInt8) (hx : a.eval x = .slice (some ⟨g2, 0, none⟩) 1 c) (hr : w.cell? ⟨g2, 0, none⟩ = some (encS n))
    (b1 : l.length + 1 ≤ 1000000) (hb : base ≤ w.heap.size)
    (hK : ∀ v' w', OwnE encS e base v' (l ++ [n]) w' → Apd base v (l ≠ []) w w' → (v'.ownBlock = v.ownBlock ∨ v'.ownBlock = some w.heap.size) → wpList P ops Q rest (a.put o.dst v') w') :
    wpList P ops Q (o :: rest) a w := by
  refine wpList_plain hg fun K hK' => ?_
  have hcc : ∀ j u, (([n] : List (List UInt8)).map encS)[j]? = some u → w.cell? ((⟨g2, 0, none⟩ : Addr).add j) = some u := fun j u hj => by
    match j, hj with
    | 0, hj => cases hj; rw [show (⟨g2, 0, none⟩ : Addr).add 0 = ⟨g2, 0, none⟩ from rfl]; exact hr
    | j + 1, hj => simp at hj
  obtain ⟨v', w', hrun, r1, r2, _, r4⟩ := run_apdG (P := P) encS encS_one w base t o.type e (.string ⟨#[]⟩) 16 h1 h2 rfl v l hown ⟨g2, 0, none⟩ 1 c [n] rfl hcc b1 (by omega) hb
  unfold Oper.wp
  simp [execOp, hop, resolve, invoke, builtin, hs, hx, hrun, Result.andThen]
  exact hK' _ _ (hK v' w' r1 r2 r4)

def mCells (M : MS) (vb vp : Value) : Array Value := #[.int .i64 M.most, vb, vp, .bool M.bad]
/-- Block R is the document's own Writer, which has M; what is its lies in blocks of f. -/
structure Rw (R : Nat) (M : MS) (f : Nat → Prop) (vb vp : Value) (W : World) : Prop where
  heap : W.heap[R]? = some (.cells (mCells M vb vp) 37 (0, 0))
  self : f R
  ob : OwnE encB 5 0 vb M.b W
  op : OwnE encS 9 0 vp M.pl W
  nilb : vb = .slice none 0 0 ∨ M.b ≠ []
  nilp : vp = .slice none 0 0 ∨ M.pl ≠ []
  mineb : ∀ g, vb.ownBlock = some g → f g
  minep : ∀ g, vp.ownBlock = some g → f g
def RwE (R : Nat) (M : MS) (f : Nat → Prop) (W : World) : Prop := ∃ vb vp, Rw R M f vb vp W
theorem Rw.lt {R : Nat} {M : MS} {f : Nat → Prop} {vb vp : Value} {W : World} (h : Rw R M f vb vp W) : R < W.heap.size := blk_lt h.heap
theorem ownG_kept {α : Type} {enc : α → Value} {e base : Nat} {v : Value} {l : List α} {W W' : World} (h : OwnE enc e base v l W) (hs : ∀ g, v.ownBlock = some g → g < W.heap.size → W'.heap[g]? = W.heap[g]?) : OwnE enc e base v l W' := by
  refine ⟨h.1, ?_⟩
  rcases h.2 with hn | ⟨g, cap, cur, rfl, hbg, hgb, r⟩
  · exact .inl hn
  · exact .inr ⟨g, cap, cur, rfl, hbg, (hs g rfl (blk_lt hgb)).trans hgb, r⟩
theorem ownG_block {α : Type} {enc : α → Value} {e base : Nat} {v : Value} {l : List α} {W : World} (h : OwnE enc e base v l W) {g : Nat} (hg : v.ownBlock = some g) : ∃ cur, W.heap[g]? = some (.cells cur e (0, 0)) := by
  rcases h.2 with ⟨rfl, _⟩ | ⟨g', cap, cur, rfl, _, hgb, _⟩
  · simp [Value.ownBlock] at hg
  · obtain rfl : g' = g := by simpa [Value.ownBlock] using hg
    exact ⟨cur, hgb⟩
theorem Rw.kept {R : Nat} {M : MS} {f : Nat → Prop} {vb vp : Value} {W W' : World} (h : Rw R M f vb vp W) (hs : ∀ k, k < W.heap.size → f k → W'.heap[k]? = W.heap[k]?) : Rw R M f vb vp W' where
  heap := (hs R h.lt h.self).trans h.heap
  self := h.self
  ob := ownG_kept h.ob fun g hg hl => hs g hl (h.mineb g hg)
  op := ownG_kept h.op fun g hg hl => hs g hl (h.minep g hg)
  nilb := h.nilb
  nilp := h.nilp
  mineb := h.mineb
  minep := h.minep
theorem RwE.kept {R : Nat} {M : MS} {f : Nat → Prop} {W W' : World} (h : RwE R M f W) (hs : ∀ k, k < W.heap.size → f k → W'.heap[k]? = W.heap[k]?) : RwE R M f W' := by
  obtain ⟨vb, vp, h⟩ := h
  exact ⟨vb, vp, h.kept hs⟩
theorem RwE.below {R : Nat} {M : MS} {f : Nat → Prop} {W W' : World} (h : RwE R M f W) (hb : Below W.heap.size W W') : RwE R M f W' := h.kept (fun k hk _ => hb.block k hk)
theorem Rw.widen {R : Nat} {M : MS} {f g : Nat → Prop} {vb vp : Value} {W : World} (h : Rw R M f vb vp W) (hfg : ∀ k, k < W.heap.size → f k → g k) : Rw R M g vb vp W where
  heap := h.heap
  self := hfg R h.lt h.self
  ob := h.ob
  op := h.op
  nilb := h.nilb
  nilp := h.nilp
  mineb := fun k hk => by obtain ⟨cur, hc⟩ := ownG_block h.ob hk; exact hfg k (blk_lt hc) (h.mineb k hk)
  minep := fun k hk => by obtain ⟨cur, hc⟩ := ownG_block h.op hk; exact hfg k (blk_lt hc) (h.minep k hk)
theorem RwE.widen {R : Nat} {M : MS} {f g : Nat → Prop} {W : World} (h : RwE R M f W) (hfg : ∀ k, k < W.heap.size → f k → g k) : RwE R M g W := by
  obtain ⟨vb, vp, h⟩ := h
  exact ⟨vb, vp, h.widen hfg⟩
theorem own_apart {α β : Type} {enc : α → Value} {enc' : β → Value} {e e' base base' : Nat} {v v' : Value} {l : List α} {l' : List β} {W : World} (h : OwnE enc e base v l W) (h' : OwnE enc' e' base' v' l' W) (hne : e ≠ e') {g : Nat} (hg : v.ownBlock = some g) : v'.ownBlock ≠ some g := by
  intro hg'
  obtain ⟨c, hc⟩ := ownG_block h hg
  obtain ⟨c', hc'⟩ := ownG_block h' hg'
  rw [hc] at hc'
  cases hc'
  exact hne rfl
theorem Rw.ne_b {R : Nat} {M : MS} {f : Nat → Prop} {vb vp : Value} {W : World} (h : Rw R M f vb vp W) : vb.ownBlock ≠ some R := fun e => by
  obtain ⟨c, hc⟩ := ownG_block h.ob e
  rw [h.heap] at hc
  cases hc
theorem Rw.ne_p {R : Nat} {M : MS} {f : Nat → Prop} {vb vp : Value} {W : World} (h : Rw R M f vb vp W) : vp.ownBlock ≠ some R := fun e => by
  obtain ⟨c, hc⟩ := ownG_block h.op e
  rw [h.heap] at hc
  cases hc
/-- w.B = append(w.B, ..). -/
theorem Rw.appB {R : Nat} {M : MS} {f : Nat → Prop} {vb vp : Value} {W : World} (h : Rw R M f vb vp W) {l : List UInt8} {v' : Value} {w1 : World} (ho : OwnE encB 5 0 v' (M.b ++ l) w1) (ha : Apd 0 vb (M.b ≠ []) W w1) (hn : vb = .slice none 0 0 ∨ M.b ≠ [] → v' = .slice none 0 0 ∨ M.b ++ l ≠ []) (hl : v'.ownBlock = vb.ownBlock ∨ v'.ownBlock = some W.heap.size) :
    w1.heap[R]? = some (.cells (mCells M vb vp) 37 (0, 0)) ∧ Turn f W (w1.setCell ⟨R, 1, none⟩ v') ∧ Rw R { M with b := M.b ++ l } (grow f W (w1.setCell ⟨R, 1, none⟩ v')) v' vp (w1.setCell ⟨R, 1, none⟩ v') := by
  have hR : w1.heap[R]? = some (.cells (mCells M vb vp) 37 (0, 0)) := ha.other R _ (fun e => h.ne_b e.symm) h.heap
  have hT : Turn f W w1 := turn_apd ha h.nilb h.mineb
  have hB := blk_set hR 1 v'
  have hk : ∀ k, k ≠ R → (w1.setCell ⟨R, 1, none⟩ v').heap[k]? = w1.heap[k]? := fun k hk => Below.heap_setCell _ ⟨R, 1, none⟩ _ k hk
  have hne : v'.ownBlock ≠ some R := fun e => by
    obtain ⟨c, hc⟩ := ownG_block ho e
    rw [hR] at hc
    cases hc
  have hs1 : (w1.setCell ⟨R, 1, none⟩ v').heap.size = w1.heap.size := by simp [World.setCell]
  have hT2 := hT.then (turn_setCell hR (by simp [mCells]) h.self 1 v')
  refine ⟨hR, hT2, ⟨by rw [hB]; simp [mCells], .inl h.self, ownG_kept ho fun g hg _ => hk g (fun e => hne (e ▸ hg)), ?_, hn h.nilb, h.nilp, fun g hg => ?_, fun g hg => .inl (h.minep g hg)⟩⟩
  · refine ownG_kept h.op fun g hg hl' => ?_
    obtain ⟨c, hc⟩ := ownG_block h.op hg
    rw [hk g (fun e => h.ne_p (e ▸ hg)), hc]
    exact ha.other g _ (fun e => own_apart h.op h.ob (by decide) hg e.symm) hc
  · rcases hl with e | e
    · exact .inl (h.mineb g (by rw [← e]; exact hg))
    · right
      rw [hg] at e
      have := Option.some.inj e
      obtain ⟨c, hc⟩ := ownG_block ho hg
      have := blk_lt hc
      omega
/-- w.Places = append(w.Places, ..). -/
theorem Rw.appP {R : Nat} {M : MS} {f : Nat → Prop} {vb vp : Value} {W : World} (h : Rw R M f vb vp W) {n : List UInt8} {v' : Value} {w1 : World} (ho : OwnE encS 9 0 v' (M.pl ++ [n]) w1) (ha : Apd 0 vp (M.pl ≠ []) W w1) (hl : v'.ownBlock = vp.ownBlock ∨ v'.ownBlock = some W.heap.size) :
    w1.heap[R]? = some (.cells (mCells M vb vp) 37 (0, 0)) ∧ Turn f W (w1.setCell ⟨R, 2, none⟩ v') ∧ Rw R { M with pl := M.pl ++ [n] } (grow f W (w1.setCell ⟨R, 2, none⟩ v')) vb v' (w1.setCell ⟨R, 2, none⟩ v') := by
  have hR : w1.heap[R]? = some (.cells (mCells M vb vp) 37 (0, 0)) := ha.other R _ (fun e => h.ne_p e.symm) h.heap
  have hT : Turn f W w1 := turn_apd ha h.nilp h.minep
  have hB := blk_set hR 2 v'
  have hk : ∀ k, k ≠ R → (w1.setCell ⟨R, 2, none⟩ v').heap[k]? = w1.heap[k]? := fun k hk => Below.heap_setCell _ ⟨R, 2, none⟩ _ k hk
  have hne : v'.ownBlock ≠ some R := fun e => by
    obtain ⟨c, hc⟩ := ownG_block ho e
    rw [hR] at hc
    cases hc
  have hs1 : (w1.setCell ⟨R, 2, none⟩ v').heap.size = w1.heap.size := by simp [World.setCell]
  have hT2 := hT.then (turn_setCell hR (by simp [mCells]) h.self 2 v')
  refine ⟨hR, hT2, ⟨by rw [hB]; simp [mCells], .inl h.self, ?_, ownG_kept ho fun g hg _ => hk g (fun e => hne (e ▸ hg)), h.nilb, .inr (by simp), fun g hg => .inl (h.mineb g hg), fun g hg => ?_⟩⟩
  · refine ownG_kept h.ob fun g hg hl' => ?_
    obtain ⟨c, hc⟩ := ownG_block h.ob hg
    rw [hk g (fun e => h.ne_b (e ▸ hg)), hc]
    exact ha.other g _ (fun e => own_apart h.ob h.op (by decide) hg e.symm) hc
  · rcases hl with e | e
    · exact .inl (h.minep g (by rw [← e]; exact hg))
    · right
      rw [hg] at e
      have := Option.some.inj e
      obtain ⟨c, hc⟩ := ownG_block ho hg
      have := blk_lt hc
      omega
/-- w.Places[k] = n. -/
theorem Rw.setP {R : Nat} {M : MS} {f : Nat → Prop} {vb : Value} {g n0 cap : Nat} {W : World} (h : Rw R M f vb (.slice (some ⟨g, 0, none⟩) n0 cap) W) {k : Nat} (hk : k + 1 < M.pl.length) (n : List UInt8) :
    Turn f W (W.setCell ⟨g, k, none⟩ (encS n)) ∧ Rw R { M with pl := M.pl.set k n } f vb (.slice (some ⟨g, 0, none⟩) n0 cap) (W.setCell ⟨g, k, none⟩ (encS n)) := by
  obtain ⟨h1, h2⟩ := h.op
  rcases h2 with ⟨e, _⟩ | ⟨g', cap', cur, e, hbg, hh, hnc, hcm, hcs, htake⟩
  · cases e
  · obtain ⟨rfl, rfl, rfl⟩ : g = g' ∧ n0 = M.pl.length ∧ cap = cap' := by
      injection e with e1 e2 e3
      injection e1 with e1
      injection e1 with e1
      exact ⟨e1, e2, e3⟩
    have hother : ∀ j, j ≠ g → (W.setCell ⟨g, k, none⟩ (encS n)).heap[j]? = W.heap[j]? := fun j hj => Below.heap_setCell W ⟨g, k, none⟩ _ j hj
    have hgR : R ≠ g := fun e => h.ne_p (by rw [e]; rfl)
    have h3 : (M.pl.map encS).length = M.pl.length := List.length_map _
    have hne1 : cur.size ≠ 1 := by omega
    refine ⟨turn_setCell hh hne1 (h.minep g rfl) k _, ⟨(hother R hgR).trans h.heap, h.self, ownG_kept h.ob fun j hj _ => hother j (fun e => own_apart h.ob h.op (by decide) hj (by rw [e]; rfl)), ?_, h.nilb, .inr (by intro hn; have h4 := congrArg List.length hn; rw [List.length_set] at h4; simp only [List.length_nil] at h4; omega), h.mineb, h.minep⟩⟩
    refine ⟨by simp, .inr ⟨g, cap, cur.setIfInBounds k (encS n), by rw [List.length_set], hbg, blk_set hh k _, by rw [List.length_set]; exact hnc, hcm, by rw [Array.size_setIfInBounds]; exact hcs, ?_⟩⟩
    rw [List.length_set, Nat.mul_one, List.map_set, Array.toList_setIfInBounds, List.take_set, ← htake, Nat.mul_one]
end Go.Proofs.Ytipabiiffaipdaa
