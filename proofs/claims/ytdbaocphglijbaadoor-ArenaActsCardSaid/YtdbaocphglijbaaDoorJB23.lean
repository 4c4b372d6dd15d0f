/- 3 texts put together: Ipu, Iad, Iun. -/
import Derived.StillTailTactics
import Derived.Test.YtdbaocphglijbaaDoorJB22
/- Package intern: a new name. -/
set_option maxRecDepth 100000
namespace Go.Proofs.YtdbaocphglijbaaDoor
open Go.RowKit Go.Shelf
attribute [local go_sem] Oper.semAt_some
theorem linked_mono {L L' : List Bl} : ∀ {R : List Ent}, linked L R → (∀ e ∈ R, ∀ d, (e.id, d) ∈ L → (e.id, d) ∈ L') → linked L' R
  | [], _, _ => trivial
  | e :: r, h, hm => ⟨hm e (by simp) _ h.1, linked_mono h.2 fun z hz d hd => hm z (List.mem_cons_of_mem _ hz) d hd⟩
/-- One chain is another one. -/
theorem TI.chain {nn cnt cnt' : Nat} {C : Nat → List Ent} {F F' : List Nat} {L L' : List Bl} {c : Nat} {l : List Ent} (I : TI nn C F cnt L) (hc : c < nn) (hF : F' = F.set c (headId l)) (hcnt : cnt' + (C c).length = cnt + l.length) (hlim : cnt' ≤ 1000000) (hl : linked L' l) (ho : ∀ k, k < nn → k ≠ c → ∀ e ∈ C k, ∀ d, (e.id, d) ∈ L → (e.id, d) ∈ L')
    (hh : ∀ e ∈ l, hashN e.name % nn = c) (hn : (l.map Ent.name).Nodup) (hs : ∀ e ∈ l, e.uses < 2147483648 ∧ e.id < 2147483648 ∧ e.name.length ≤ 300) : TI nn (upd C c l) F' cnt' L' := by
  subst hF
  refine ⟨I.pos, I.lim, by rw [List.length_set]; exact I.len, fun k h => ?_, fun k h => ?_, fun k h e he => ?_, fun k h => ?_, ?_, hlim, fun k h e he => ?_⟩
  · rw [List.getElem?_set]
    by_cases e : k = c
    · subst e
      rw [if_pos rfl, if_pos (by rw [I.len]; exact h), upd_same]
    · rw [if_neg (fun e' => e e'.symm), I.first k h, upd_other e]
  · by_cases e : k = c
    · subst e; rw [upd_same]; exact hl
    · rw [upd_other e]
      exact linked_mono (I.link k h) fun z hz d hd => ho k h e z hz d hd
  · by_cases e1 : k = c
    · subst e1; rw [upd_same] at he; exact hh e he
    · rw [upd_other e1] at he; exact I.hash k h e he
  · by_cases e1 : k = c
    · subst e1; rw [upd_same]; exact hn
    · rw [upd_other e1]; exact I.names k h
  · have := tot_upd (C := C) (l := l) hc
    have := I.count
    omega
  · by_cases e1 : k = c
    · subst e1; rw [upd_same] at he; exact hs e he
    · rw [upd_other e1] at he; exact I.small k h e he
theorem TI.push {nn cnt : Nat} {C : Nat → List Ent} {F : List Nat} {L1 L2 : List Bl} {id : Nat} {name : List UInt8} (I : TI nn C F cnt (L1 ++ L2)) (hi2 : id < 2147483648) (hn : name.length ≤ 300) (hnew : ∀ c, c < nn → ∀ e ∈ C c, e.name ≠ name) (hcnt : cnt < 1000000) :
    TI nn (upd C (hashN name % nn) (⟨id, 1, name⟩ :: C (hashN name % nn))) (F.set (hashN name % nn) id) (cnt + 1) (L1 ++ (id, blkE 1 (headId (C (hashN name % nn))) name) :: L2) := by
  have hc : hashN name % nn < nn := Nat.mod_lt _ I.pos
  have hmono : ∀ b, b ∈ L1 ++ L2 → b ∈ L1 ++ (id, blkE 1 (headId (C (hashN name % nn))) name) :: L2 := fun b hb => by rcases List.mem_append.1 hb with hb | hb <;> simp [hb]
  refine I.chain hc rfl (by rw [List.length_cons]; omega) (by omega) ⟨by simp, linked_mono (I.link _ hc) fun z _ d hd => hmono _ hd⟩ (fun k _ _ e _ d hd => hmono _ hd) (fun e he => ?_) ?_ (fun e he => ?_)
  · rcases List.mem_cons.1 he with rfl | he
    · rfl
    · exact I.hash _ hc e he
  · rw [List.map_cons, List.nodup_cons]
    refine ⟨fun hm => ?_, I.names _ hc⟩
    obtain ⟨z, hz, e2⟩ := List.mem_map.1 hm
    exact hnew _ hc z hz e2
  · rcases List.mem_cons.1 he with rfl | he
    · exact ⟨by simp only; omega, hi2, hn⟩
    · exact I.small _ hc e he
/-- Another number of uses. -/
theorem TI.use {nn cnt c u : Nat} {C : Nat → List Ent} {F : List Nat} {L1 L2 : List Bl} {P R : List Ent} {y : Ent} (I : TI nn C F cnt (L1 ++ (y.id, blkE y.uses (headId R) y.name) :: L2)) (hs : (L1 ++ (y.id, blkE y.uses (headId R) y.name) :: L2).Pairwise (fun a b => a.1 < b.1)) (hc : c < nn) (hC : C c = P ++ y :: R) (hu : u < 2147483648) :
    TI nn (upd C c (P ++ ⟨y.id, u, y.name⟩ :: R)) F cnt (L1 ++ (y.id, blkE u (headId R) y.name) :: L2) := by
  have hothers : ∀ k, k < nn → ∀ e ∈ C k, e.name ≠ y.name → ∀ d, (e.id, d) ∈ L1 ++ (y.id, blkE y.uses (headId R) y.name) :: L2 → (e.id, d) ∈ L1 ++ (y.id, blkE u (headId R) y.name) :: L2 := fun k hk e he hne d hd => by
    rcases List.mem_append.1 hd with hd | hd
    · simp [hd]
    · rcases List.mem_cons.1 hd with hd | hd
      · exfalso
        obtain ⟨nx, hnx, hm⟩ := I.mem hk he
        have h1 : e.id = y.id := (Prod.mk.inj hd).1
        have h2 := srt_mem hs hm (show (y.id, blkE y.uses (headId R) y.name) ∈ _ by simp) h1
        have h3 := congrArg (fun z => List.drop 8 z) (Prod.mk.inj h2).2
        exact hne h3
      · simp [hd]
  have hyC : y ∈ C c := by rw [hC]; simp
  have hnd := I.names c hc
  have hhd : headId (P ++ (⟨y.id, u, y.name⟩ : Ent) :: R) = headId (C c) := by rw [hC]; cases P <;> rfl
  have hFc : F = F.set c (headId (P ++ (⟨y.id, u, y.name⟩ : Ent) :: R)) := by
    rw [hhd]
    exact (set_same (I.first c hc)).symm
  have hne2 : ∀ e ∈ P ++ R, e.name ≠ y.name := fun e he hn => by
    rw [hC, List.map_append, List.map_cons, List.nodup_append] at hnd
    obtain ⟨_, h2, h3⟩ := hnd
    rw [List.nodup_cons] at h2
    rcases List.mem_append.1 he with he | he
    · exact h3 e.name (List.mem_map_of_mem he) y.name (by simp) hn
    · exact h2.1 (hn ▸ List.mem_map_of_mem he)
  refine I.chain hc hFc (by rw [hC]; simp) I.clim ?_ (fun k hk hkc e he d hd => hothers k hk e he (fun hn => hkc ?_) d hd) (fun e he => ?_) ?_ (fun e he => ?_)
  · have hl := I.link c hc
    rw [hC] at hl
    have key : ∀ (Q : List Ent), (∀ e ∈ Q, e.name ≠ y.name ∧ e ∈ C c) → linked (L1 ++ (y.id, blkE y.uses (headId R) y.name) :: L2) (Q ++ y :: R) → linked (L1 ++ (y.id, blkE u (headId R) y.name) :: L2) (Q ++ ⟨y.id, u, y.name⟩ :: R) := fun Q => by
      induction Q with
      | nil =>
        intro _ h
        exact ⟨by simp, linked_mono h.2 fun z hz d hd => hothers c hc z (by rw [hC]; simp [hz]) (hne2 z (by simp [hz])) d hd⟩
      | cons q Q ih =>
        intro hq h
        refine ⟨?_, ih (fun e he => hq e (List.mem_cons_of_mem _ he)) h.2⟩
        have hx := hothers c hc q (hq q (by simp)).2 (hq q (by simp)).1 _ h.1
        have he : headId (Q ++ (⟨y.id, u, y.name⟩ : Ent) :: R) = headId (Q ++ y :: R) := by cases Q <;> rfl
        show (q.id, blkE q.uses (headId (Q ++ (⟨y.id, u, y.name⟩ : Ent) :: R)) q.name) ∈ _
        rw [he]
        exact hx
    exact key P (fun e he => ⟨hne2 e (by simp [he]), by rw [hC]; simp [he]⟩) hl
  · rw [← I.hash k hk e he, hn]; exact I.hash c hc y hyC
  · rcases List.mem_append.1 he with he | he
    · exact I.hash c hc e (by rw [hC]; simp [he])
    · rcases List.mem_cons.1 he with rfl | he
      · exact I.hash c hc y hyC
      · exact I.hash c hc e (by rw [hC]; simp [he])
  · rw [hC] at hnd
    simpa using hnd
  · rcases List.mem_append.1 he with he | he
    · exact I.small c hc e (by rw [hC]; simp [he])
    · rcases List.mem_cons.1 he with rfl | he
      · have := I.small c hc y hyC
        exact ⟨hu, this.2⟩
      · exact I.small c hc e (by rw [hC]; simp [he])
/-- A call has changed the table, the arena and nothing else of the law's own. -/
structure LT (x : Nat → Prop) (t : TB) (F : List Nat) (cnt B : Nat) (L : List Bl) (n0 : Nat) (w w' : World) : Prop where
  at_ : HX x t.A B L n0 w'
  below : Below n0 w w'
  tb : TbE x t F cnt w'
  own : ∀ k, x k → k ≠ t.T → k ≠ t.F → w'.heap[k]? = w.heap[k]?
theorem LT.of {x : Nat → Prop} {t : TB} {F : List Nat} {cnt B : Nat} {L : List Bl} {n0 : Nat} {w w' : World} (k : LX x t.A B L n0 w w') (ht : TbE x t F cnt w) : LT x t F cnt B L n0 w w' :=
  ⟨k.at_, k.below, ht.lx k, fun j hj _ _ => k.own j hj⟩
theorem LT.putF {x : Nat → Prop} {t : TB} {F : List Nat} {cnt B : Nat} {L : List Bl} {n0 : Nat} {w w' : World} (h : LT x t F cnt B L n0 w w') (c id : Nat) : LT x t (F.set c id) cnt B L n0 w (w'.setCell ⟨t.F, c, none⟩ (encF id)) :=
  ⟨h.at_.put h.tb.xF c _, h.below.setCell (h.at_.xlow _ h.tb.xF) _, ⟨by rw [List.length_set]; exact h.tb.box.other (h.tb.box.ne h.tb.row (by decide)) c _, by rw [List.map_set]; exact h.tb.row.set c _, h.tb.xT, h.tb.xF⟩, fun k hk h1 h2 => (Below.heap_setCell w' ⟨t.F, c, none⟩ _ k h2).trans (h.own k hk h1 h2)⟩
theorem LT.putC {x : Nat → Prop} {t : TB} {F : List Nat} {cnt B : Nat} {L : List Bl} {n0 : Nat} {w w' : World} (h : LT x t F cnt B L n0 w w') (c : Nat) : LT x t F c B L n0 w (w'.setCell ⟨t.T, 2, none⟩ (encI c)) :=
  ⟨h.at_.put h.tb.xT 2 _, h.below.setCell (h.at_.xlow _ h.tb.xT) _, ⟨h.tb.box.set 2 _, h.tb.row.other (h.tb.box.ne h.tb.row (by decide)).symm 2 _, h.tb.xT, h.tb.xF⟩, fun k hk h1 h2 => (Below.heap_setCell w' ⟨t.T, 2, none⟩ _ k h1).trans (h.own k hk h1 h2)⟩
theorem LT.go {x : Nat → Prop} {t : TB} {F : List Nat} {cnt B : Nat} {L L' : List Bl} {n0 : Nat} {w w1 w2 : World} (h : LT x t F cnt B L n0 w w1) (k : LX x t.A B L' n0 w1 w2) : LT x t F cnt B L' n0 w w2 :=
  ⟨k.at_, h.below.trans k.below, h.tb.lx k, fun j hj h1 h2 => (k.own j hj).trans (h.own j hj h1 h2)⟩
theorem LT.after {x : Nat → Prop} {t : TB} {F : List Nat} {cnt B : Nat} {L : List Bl} {n0 : Nat} {w w1 w2 : World} (h : LT x t F cnt B L n0 w w1) (hb : Below w1.heap.size w1 w2) : LT x t F cnt B L n0 w w2 := h.go (h.at_.lx hb)
theorem least_le {x : Nat → Prop} {A B : Nat} {L1 L2 : List Bl} {n0 : Nat} {w : World} (h : HX x A B (L1 ++ L2) n0 w) : L1.length ≤ 65536 := by
  have hs := h.sum_le
  have h1 : ∀ (L : List Bl), (∀ b ∈ L, b.2.length ≤ 4096) → 16 * L.length ≤ sumC L := fun L => by
    induction L with
    | nil => intro _; simp [sumC]
    | cons b L ih =>
      intro hb
      have h2 := ih fun z hz => hb z (List.mem_cons_of_mem _ hz)
      have h3 := Ar.cost_ge b.2.length (hb b (by simp))
      rw [sumC_cons, List.length_cons]
      omega
  have h2 := h1 _ fun b hb => (h.each.2 b hb).2
  rw [List.length_append] at h2
  omega
def PutOk (x : Nat → Prop) (t : TB) (B nn cnt : Nat) (C : Nat → List Ent) (F : List Nat) (L : List Bl) (n0 : Nat) (l : List UInt8) (w : World) (e : Ending) (w' : World) : Prop :=
  ∃ L1 L2, L = L1 ++ L2 ∧ Least L1 L2 ∧ e = .returned (.tuple #[.int .i64 ((L1.length + 1 : Nat) : Int), .int .i64 0]) ∧ LT x t (F.set (hashN l % nn) (L1.length + 1)) (cnt + 1) B (L1 ++ (L1.length + 1, blkE 1 (headId (C (hashN l % nn))) l) :: L2) n0 w w'
set_option maxHeartbeats 16000000 in
theorem put_ok (x : Nat → Prop) (t : TB) (B nn cnt : Nat) (C : Nat → List Ent) (F : List Nat) (L : List Bl) (n0 : Nat) (l : List UInt8) (w : World) (h : HX x t.A B L n0 w) (ht : TbE x t F cnt w) (I : TI nn C F cnt L) (hl : l.length ≤ 300) (hc : sumC L + Ar.cost (l.length + 8) ≤ B) :
    Calls Tryd.prog 76 #[.pointer (some ⟨t.T, 0, none⟩), .string ⟨l.toArray⟩] w (PutOk x t B nn cnt C F L n0 l w) := by
  have c0 := ht.box.cell (i := 0) rfl
  have H := Lib.hid h
  have HI := Lib.hid I
  have HTB := Lib.hid ht
  have hpos := I.pos
  have hlim := I.lim
  have hlen := I.len
  have hclim := I.clim
  have HAL := Lib.hid (alloc_ok x t.A B L n0 (8 + (l.length : Int)) (l.length + 8) w (by omega) h (by omega) hc)
  clear h ht I hc
  obtain ⟨A, T, FF⟩ := t
  simp only at HAL
  go_enter Tryd.func76, Tryd.ntmps76
  go_wp2_with fail
  refine HAL.out.mono ?_
  rintro e w1 ⟨L1, L2, rfl, hle, rfl, h1⟩
  have H1 := Lib.hid (LT.of h1 HTB.out)
  have HLE := Lib.hid hle
  have hid := least_le H.out
  obtain ⟨id, hid2⟩ : ∃ id, L1.length + 1 = id := ⟨_, rfl⟩
  rw [hid2] at H1 ⊢
  have HID := Lib.hid hid2
  have hidl : id ≤ 65537 := by omega
  obtain ⟨c, hc⟩ : ∃ c, hashN l % nn = c := ⟨_, rfl⟩
  have hcn : c < nn := by rw [← hc]; exact Nat.mod_lt _ (by omega)
  have HC := Lib.hid hc
  have HCH := Lib.hid (fun W (k : Blk W T (tbBox ⟨A, T, FF⟩ nn cnt) 109) => by have z := chainOf_any ⟨A, T, FF⟩ nn cnt l W k (by omega) hpos hlim; rw [hc] at z; exact z)
  clear h1 hle hid hid2 hc c0 HAL
  subst hlen
  go_wp2_with fail
  refine (HCH.out _ H1.out.tb.box).mono ?_
  rintro e w2 ⟨rfl, hd⟩
  have H2 := Lib.hid (H1.out.after hd.below)
  clear hd H1 HCH
  have c1 := H2.out.tb.box.cell (i := 1) rfl
  have cf := H2.out.tb.row.cell (i := c) (v := .int .i32 ((headId (C c) : Nat) : Int)) (by rw [List.getElem?_map, HI.out.first c hcn]; rfl)
  have hh := headId_lt (R := C c) fun e he => (HI.out.small c hcn e he).2.1
  obtain ⟨hd, hhd⟩ : ∃ hd, headId (C c) = hd := ⟨_, rfl⟩
  rw [hhd] at cf hh
  have HHD := Lib.hid hhd
  have HH := Lib.hid hh
  clear hhd hh
  have hnn : c < F.length := hcn
  have hw1 : IntKind.i64.wrap (hd : Int) = (hd : Int) := IntWalk.i64_in _ (by have := HH.out; omega)
  go_wp2_with fail
  refine (write_any x ⟨A, T, FF⟩ B F.length cnt L1 L2 id (Ar.zeros (l.length + 8)) n0 1 hd l (id : Int) w2 rfl H2.out.at_ H2.out.tb.box (by rw [zeros_len]; omega) (by omega) (by omega) (by have := HH.out; omega)).mono ?_
  rintro e w5 ⟨rfl, h5⟩
  have H5 := Lib.hid (H2.out.go h5)
  clear h5 c1 cf hw1 H2
  have c1 := H5.out.tb.box.cell (i := 1) rfl
  have c2 := H5.out.tb.box.cell (i := 2) rfl
  have cT := H5.out.tb.box.frozen 2
  have cF := H5.out.tb.row.frozen c
  obtain ⟨v9, cf⟩ : ∃ v, w5.cell? ⟨FF, c, none⟩ = some v := ⟨_, H5.out.tb.row.cell (i := c) (by rw [List.getElem?_map, List.getElem?_eq_getElem hcn]; rfl)⟩
  have hTF : T ≠ FF := H5.out.tb.box.ne H5.out.tb.row (by decide)
  have hFT : FF ≠ T := hTF.symm
  have hwi : IntKind.i32.wrap (id : Int) = (id : Int) := IntWalk.i32_in _ (by omega)
  unfold encI at c2
  go_wp2
  go_ret2
  refine ⟨L1, L2, rfl, HLE.out, by rw [HID.out]; rfl, ?_⟩
  have k := (H5.out.putF c id).putC (cnt + 1)
  rw [show encI (cnt + 1) = .int .i64 ((cnt : Int) + 1) by unfold encI; norm_cast] at k
  rw [HC.out, HID.out, HHD.out]
  exact k
set_option maxHeartbeats 8000000 in
theorem put_full (x : Nat → Prop) (t : TB) (B cnt : Nat) (F : List Nat) (L : List Bl) (n0 : Nat) (l : List UInt8) (w : World) (h : HX x t.A B L n0 w) (ht : TbE x t F cnt w) (hl : l.length ≤ 300) (hc : B < sumC L + Ar.cost (l.length + 8)) :
    Calls Tryd.prog 76 #[.pointer (some ⟨t.T, 0, none⟩), .string ⟨l.toArray⟩] w fun e w' => e = .returned (.tuple #[.int .i64 0, .int .i64 4]) ∧ w = w' := by
  have c0 := ht.box.cell (i := 0) rfl
  have HAL := Lib.hid (alloc_no x t.A B L n0 (8 + (l.length : Int)) (l.length + 8) w (by omega) h (by omega) hc)
  clear h ht hc
  obtain ⟨A, T, FF⟩ := t
  simp only at HAL
  go_enter Tryd.func76, Tryd.ntmps76
  go_wp2_with fail
  refine HAL.out.mono ?_
  rintro e w1 ⟨rfl, rfl⟩
  go_wp2
  go_ret2
  exact ⟨rfl, rfl⟩
end Go.Proofs.YtdbaocphglijbaaDoor

/- Package intern: Add. -/
set_option maxRecDepth 100000
namespace Go.Proofs.YtdbaocphglijbaaDoor
open Go.RowKit Go.Shelf
attribute [local go_sem] Oper.semAt_some
theorem LX.less {x y : Nat → Prop} {A B : Nat} {L : List Bl} {n0 : Nat} {w w' : World} (h : LX y A B L n0 w w') (hy : ∀ k, x k → y k) : LX x A B L n0 w w' := ⟨h.at_.less hy, h.below, fun k hk => h.own k (hy k hk)⟩
theorem LX.from {x : Nat → Prop} {A B : Nat} {L : List Bl} {n0 : Nat} {w w1 w' : World} (h : HX x A B L n0 w) (hb : Below w.heap.size w w1) {L' : List Bl} (k : LX x A B L' n0 w1 w') : LX x A B L' n0 w w' := (h.lx hb).to k
def AddUp (x : Nat → Prop) (A B : Nat) (C : Nat → List Ent) (L : List Bl) (n0 c : Nat) (y : Ent) (u : Nat) (w : World) (w' : World) : Prop :=
  ∃ P R L1 L2, C c = P ++ y :: R ∧ L = L1 ++ (y.id, blkE y.uses (headId R) y.name) :: L2 ∧ LX x A B (L1 ++ (y.id, blkE u (headId R) y.name) :: L2) n0 w w'
set_option maxHeartbeats 16000000 in
theorem add_found (x : Nat → Prop) (t : TB) (B nn cnt : Nat) (C : Nat → List Ent) (F : List Nat) (L : List Bl) (n0 c : Nat) (y : Ent) (n : List UInt8) (w : World) (h : HX x t.A B L n0 w) (ht : TbE x t F cnt w) (I : TI nn C F cnt L) (hc : c < nn) (hy : y ∈ C c) (hv : Nm.valid n = true) (hz : Nm.fold n = y.name) (hl : n.length ≤ 100000) :
    Calls Tryd.prog 36 #[.pointer (some ⟨t.T, 0, none⟩), .string ⟨n.toArray⟩] w fun e w' => e = .returned (.tuple #[.int .i64 (y.id : Int), .int .i64 0]) ∧ AddUp x t.A B C L n0 c y (y.uses + 1) w w' := by
  have H := Lib.hid h
  have HTB := Lib.hid ht
  have HI := Lib.hid I
  have HV := Lib.hid (by have k := valid_any n w hl; rw [hv] at k; exact k)
  have HFO := Lib.hid (by have k := fold_any n w hl; rw [hz] at k; exact k)
  have HH := Lib.hid (fun W (hb : Below w.heap.size w W) => find_yes x t B nn cnt C F L n0 c y W (h.after hb) (ht.below hb) I hc hy)
  obtain ⟨hyu, hyi, hyn⟩ := I.small c hc y hy
  clear h ht I hv hz
  obtain ⟨A, T, FF⟩ := t
  simp only at HH
  go_enter Tryd.func36, Tryd.ntmps36
  go_wp2_with fail
  refine HV.out.mono ?_
  rintro e w' ⟨rfl, rfl⟩
  go_wp2_with fail
  refine HFO.out.mono ?_
  rintro e w4 ⟨rfl, b4'⟩
  have HB4 := Lib.hid b4'
  clear b4'
  go_wp2_with fail
  refine (HH.out _ HB4.out).mono ?_
  rintro e w5 ⟨_, b5, P, R, hPR, rfl⟩
  have hb5 := HB4.out.trans (b5.mono HB4.out.size)
  have HB5 := Lib.hid hb5
  have HPR := Lib.hid hPR
  clear b5 hb5 hPR
  obtain ⟨a, ha⟩ : ∃ a, lastId P = a := ⟨_, rfl⟩
  obtain ⟨hr, hhr⟩ : ∃ hr, headId R = hr := ⟨_, rfl⟩
  have hhl : hr < 2147483648 := by rw [← hhr]; exact headId_lt fun e he => (HI.out.small c hc e (by rw [HPR.out]; simp [he])).2.1
  have hmem : (y.id, blkE y.uses (headId R) y.name) ∈ L := linked_app (P := P) (by rw [← HPR.out]; exact HI.out.link c hc)
  rw [ha, hhr]
  rw [hhr] at hmem
  obtain ⟨L1, L2, hL⟩ := List.append_of_mem hmem
  have HL := Lib.hid hL
  have HHR := Lib.hid hhr
  have HHL := Lib.hid hhl
  clear ha hhr hhl hmem hL
  unfold entV
  have y8 := Blk.new w5 [.int .i64 (c : Int), .int .i64 (a : Int), .int .i64 (y.id : Int), .int .i64 (y.uses : Int), .int .i64 (hr : Int), .string ⟨y.name.toArray⟩] 113
  have z3 := y8.cell (i := 3) rfl
  have f3 := y8.frozen 3
  go_upto_region 9 with fail
  clear z3 f3 y8
  have hx7 := (H.out.after HB5.out).mine (.cells #[.int .i64 (c : Int), .int .i64 (a : Int), .int .i64 (y.id : Int), .int .i64 ((y.uses : Int) + 1), .int .i64 (hr : Int), .string ⟨y.name.toArray⟩] 113)
  have hb7 := HB5.out.alloc HB5.out.size (.cells #[.int .i64 (c : Int), .int .i64 (a : Int), .int .i64 (y.id : Int), .int .i64 ((y.uses : Int) + 1), .int .i64 (hr : Int), .string ⟨y.name.toArray⟩] 113)
  have y9 := Blk.new w5 [.int .i64 (c : Int), .int .i64 (a : Int), .int .i64 (y.id : Int), .int .i64 ((y.uses : Int) + 1), .int .i64 (hr : Int), .string ⟨y.name.toArray⟩] 113
  have hT7 := HTB.out.below hb7
  generalize hW7 : World.alloc _ _ = W7 at hx7 hb7 hT7 ⊢
  replace y9 : Blk W7 w5.heap.size [.int .i64 (c : Int), .int .i64 (a : Int), .int .i64 (y.id : Int), .int .i64 ((y.uses : Int) + 1), .int .i64 (hr : Int), .string ⟨y.name.toArray⟩] 113 := by rw [← hW7]; exact y9
  clear hW7
  have HX7 := Lib.hid hx7
  have HB7 := Lib.hid hb7
  have HT7 := Lib.hid hT7
  have Y9 := Lib.hid y9
  have z2 := y9.cell (i := 2) rfl
  have z3 := y9.cell (i := 3) rfl
  have z4 := y9.cell (i := 4) rfl
  have z5 := y9.cell (i := 5) rfl
  clear hx7 hb7 hT7 y9
  go_wp2_with fail
  refine (write_any (fun k => x k ∨ k = w5.heap.size) ⟨A, T, FF⟩ B F.length cnt L1 L2 y.id (blkE y.uses hr y.name) n0 (y.uses + 1) hr y.name (y.id : Int) W7 rfl (by rw [← HL.out]; exact HX7.out) HT7.out.box (by rw [blkE_len]) (by omega) (by omega) (by have := HHL.out; omega)).mono ?_
  rintro e w8 ⟨rfl, h8⟩
  have y8 := h8.blk (.inr rfl) Y9.out
  have z2 := y8.cell (i := 2) rfl
  have H8 := Lib.hid (LX.from H.out HB7.out (h8.less (x := x) (fun k hk => .inl hk)))
  clear h8 y8 z3 z4 z5
  go_wp2
  go_ret2
  exact ⟨rfl, P, R, L1, L2, HPR.out, by rw [HHR.out]; exact HL.out, by rw [HHR.out]; exact H8.out⟩
set_option maxHeartbeats 8000000 in
theorem add_bad (t : Value) (n : List UInt8) (w : World) (hv : Nm.valid n = false) (hl : n.length ≤ 100000) :
    Calls Tryd.prog 36 #[t, .string ⟨n.toArray⟩] w fun e w' => e = .returned (.tuple #[.int .i64 0, .int .i64 2]) ∧ w = w' := by
  have HV := Lib.hid (by have k := valid_any n w hl; rw [hv] at k; exact k)
  clear hv
  go_enter Tryd.func36, Tryd.ntmps36
  go_wp2_with fail
  refine HV.out.mono ?_
  rintro e w' ⟨rfl, rfl⟩
  go_wp2
  go_ret2
  exact ⟨rfl, rfl⟩
set_option maxHeartbeats 8000000 in
theorem add_nil (n : List UInt8) (w : World) (hv : Nm.valid n = true) (hl : n.length ≤ 100000) :
    Calls Tryd.prog 36 #[.pointer none, .string ⟨n.toArray⟩] w fun e w' => e = .returned (.tuple #[.int .i64 0, .int .i64 4]) ∧ w = w' := by
  have HV := Lib.hid (by have k := valid_any n w hl; rw [hv] at k; exact k)
  clear hv
  go_enter Tryd.func36, Tryd.ntmps36
  go_wp2_with fail
  refine HV.out.mono ?_
  rintro e w' ⟨rfl, rfl⟩
  go_wp2
  go_ret2
  exact ⟨rfl, rfl⟩
theorem LT.from {x : Nat → Prop} {t : TB} {F F' : List Nat} {cnt cnt' B : Nat} {L L' : List Bl} {n0 : Nat} {w w1 w' : World} (h : LT x t F cnt B L n0 w w1) (k : LT x t F' cnt' B L' n0 w1 w') : LT x t F' cnt' B L' n0 w w' :=
  ⟨k.at_, h.below.trans k.below, k.tb, fun j hj h1 h2 => (k.own j hj h1 h2).trans (h.own j hj h1 h2)⟩
def AddNew (x : Nat → Prop) (t : TB) (B nn cnt : Nat) (C : Nat → List Ent) (F : List Nat) (L : List Bl) (n0 : Nat) (l : List UInt8) (w : World) (e : Ending) (w' : World) : Prop :=
  (B < sumC L + Ar.cost (l.length + 8) ∧ e = .returned (.tuple #[.int .i64 0, .int .i64 4]) ∧ LT x t F cnt B L n0 w w') ∨ (sumC L + Ar.cost (l.length + 8) ≤ B ∧ PutOk x t B nn cnt C F L n0 l w e w')
set_option maxHeartbeats 16000000 in
theorem add_new (x : Nat → Prop) (t : TB) (B nn cnt : Nat) (C : Nat → List Ent) (F : List Nat) (L : List Bl) (n0 : Nat) (n l : List UInt8) (w : World) (h : HX x t.A B L n0 w) (ht : TbE x t F cnt w) (I : TI nn C F cnt L) (hv : Nm.valid n = true) (hz : Nm.fold n = l) (hl : n.length ≤ 100000) (hl2 : l.length ≤ 300) (hn : ∀ c, c < nn → ∀ e ∈ C c, e.name ≠ l) :
    Calls Tryd.prog 36 #[.pointer (some ⟨t.T, 0, none⟩), .string ⟨n.toArray⟩] w (AddNew x t B nn cnt C F L n0 l w) := by
  have H := Lib.hid h
  have HTB := Lib.hid ht
  have HV := Lib.hid (by have k := valid_any n w hl; rw [hv] at k; exact k)
  have HFO := Lib.hid (by have k := fold_any n w hl; rw [hz] at k; exact k)
  have HH := Lib.hid (fun W (hb : Below w.heap.size w W) => find_no x t B nn cnt C F L n0 l W (h.after hb) (ht.below hb) I (by omega) hn)
  have HPU := Lib.hid (show ∀ W, Below w.heap.size w W → Calls Tryd.prog 76 #[.pointer (some ⟨t.T, 0, none⟩), .string ⟨l.toArray⟩] W (fun e w' => AddNew x t B nn cnt C F L n0 l w e w' ∧ ∃ (i k : Int), e = .returned (.tuple #[.int .i64 i, .int .i64 k])) from fun W hb => by
    have hW := h.after hb
    have hTW := ht.below hb
    have h0 := LT.of (h.lx hb) ht
    by_cases hc : sumC L + Ar.cost (l.length + 8) ≤ B
    · refine (put_ok x t B nn cnt C F L n0 l W hW hTW I hl2 hc).mono fun e w' ⟨L1, L2, e1, hle, he, hL⟩ => ⟨.inr ⟨hc, L1, L2, e1, hle, he, h0.from hL⟩, _, _, he⟩
    · exact (put_full x t B cnt F L n0 l W hW hTW hl2 (by omega)).mono fun e w' ⟨he, hw⟩ => ⟨.inl ⟨by omega, he, by rw [← hw]; exact h0⟩, _, _, he⟩)
  clear h ht I hv hz hn
  obtain ⟨A, T, FF⟩ := t
  simp only at HH HPU
  go_enter Tryd.func36, Tryd.ntmps36
  go_wp2_with fail
  refine HV.out.mono ?_
  rintro e w' ⟨rfl, rfl⟩
  go_wp2_with fail
  refine HFO.out.mono ?_
  rintro e w4 ⟨rfl, b4'⟩
  have HB4 := Lib.hid b4'
  clear b4'
  go_wp2_with fail
  refine (HH.out _ HB4.out).mono ?_
  rintro e w5 ⟨rfl, _, b5⟩
  have hb5 := HB4.out.trans (b5.mono HB4.out.size)
  have HB7 := Lib.hid (hb5.alloc hb5.size (.cells #[.int .i64 0, .int .i64 0, .int .i64 0, .int .i64 0, .int .i64 0, .string ⟨#[]⟩] 113))
  clear b5 hb5
  unfold entV
  go_wp2_with fail
  refine (HPU.out _ HB7.out).mono ?_
  rintro e w6 ⟨hA, i, k, rfl⟩
  have HA := Lib.hid hA
  clear hA
  go_wp2
  go_ret2
  exact HA.out
end Go.Proofs.YtdbaocphglijbaaDoor

/- Package intern: a name is taken out of its chain. -/
set_option maxRecDepth 100000
namespace Go.Proofs.YtdbaocphglijbaaDoor
open Go.RowKit Go.Shelf
attribute [local go_sem] Oper.semAt_some
set_option maxHeartbeats 16000000 in
/-- The first one of its chain. -/
theorem unlink_first (x : Nat → Prop) (t : TB) (B cnt : Nat) (F : List Nat) (L : List Bl) (n0 c id uses hr : Nat) (name : List UInt8) (w : World) (h : HX x t.A B L n0 w) (ht : TbE x t F (cnt + 1) w) (hcn : c < F.length) (_hF : F.length ≤ 1000000) (hcnt : cnt ≤ 1000000) (hhr : hr < 2147483648) :
    Calls Tryd.prog 79 #[.pointer (some ⟨t.T, 0, none⟩), entV c 0 id uses hr name] w fun e w' => e = .returned (.tuple #[]) ∧ LT x t (F.set c hr) cnt B L n0 w w' := by
  have H := Lib.hid h
  have HTB := Lib.hid ht
  have HHR := Lib.hid hhr
  clear h ht hhr
  obtain ⟨A, T, FF⟩ := t
  unfold entV
  rw [show ((0 : Nat) : Int) = 0 from rfl]
  have b1 : Below w.heap.size w (w.alloc (.cells #[.int .i64 (c : Int), .int .i64 0, .int .i64 (id : Int), .int .i64 (uses : Int), .int .i64 (hr : Int), .string ⟨name.toArray⟩] 113)) := (Below.refl _ w).alloc (Nat.le_refl _) _
  have K1 := Lib.hid (LT.of (H.out.lx b1) HTB.out)
  have y8 := Blk.new w [.int .i64 (c : Int), .int .i64 0, .int .i64 (id : Int), .int .i64 (uses : Int), .int .i64 (hr : Int), .string ⟨name.toArray⟩] 113
  have c2 := K1.out.tb.box.cell (i := 2) rfl
  have f2 := K1.out.tb.box.frozen 2
  unfold encI at c2
  have ecn : ((cnt + 1 : Nat) : Int) = (cnt : Int) + 1 := by norm_cast
  rw [ecn] at c2
  have esub : (cnt : Int) + 1 - 1 = (cnt : Int) := by omega
  have hTB := K1.out.tb.box.ne y8 (by decide)
  have HY := Lib.hid (y8.other hTB.symm 2 (encI cnt))
  have K2 := Lib.hid (K1.out.putC cnt)
  have z1 := HY.out.cell (i := 1) rfl
  clear b1 ecn
  go_enter Tryd.func79, Tryd.ntmps79
  go_upto_region 2 with fail
  generalize hW2 : World.setCell _ _ _ = W2
  replace K2 : Hid (LT x ⟨A, T, FF⟩ F cnt B L n0 w W2) := by rw [← hW2]; exact K2
  replace HY : Hid (Blk W2 w.heap.size [.int .i64 (c : Int), .int .i64 0, .int .i64 (id : Int), .int .i64 (uses : Int), .int .i64 (hr : Int), .string ⟨name.toArray⟩] 113) := by rw [← hW2]; exact HY
  clear hW2 z1 c2 f2 y8 K1 esub
  have z0 := HY.out.cell (i := 0) rfl
  have z1 := HY.out.cell (i := 1) rfl
  have z4 := HY.out.cell (i := 4) rfl
  have c1 := K2.out.tb.box.cell (i := 1) rfl
  obtain ⟨v9, cf⟩ : ∃ v, W2.cell? ⟨FF, c, none⟩ = some v := ⟨_, K2.out.tb.row.cell (i := c) (by rw [List.getElem?_map, List.getElem?_eq_getElem hcn]; rfl)⟩
  have cF := K2.out.tb.row.frozen c
  have hwi : IntKind.i32.wrap (hr : Int) = (hr : Int) := IntWalk.i32_in _ (by have := HHR.out; omega)
  have K3 := Lib.hid ((K2.out.putF c hr).after ((Below.refl _ _).drew))
  unfold encF at K3
  go_wp2
  go_region
  all_goals
    go_wp2
    exact bodyPost_ret (v := .tuple #[]) (results_none rfl _ _ _) rfl ⟨rfl, K3.out⟩
set_option maxHeartbeats 16000000 in
/-- One behind another one in its chain. -/
theorem unlink_next (x : Nat → Prop) (t : TB) (B cnt : Nat) (F : List Nat) (L1 L2 : List Bl) (n0 c a id uses hr zu nx : Nat) (name zn : List UInt8) (w : World) (h : HX x t.A B (L1 ++ (a, blkE zu nx zn) :: L2) n0 w) (ht : TbE x t F (cnt + 1) w) (hcnt : cnt ≤ 1000000) (hhr : hr < 2147483648) (ha : 1 ≤ a) (hzu : zu < 2147483648) (hnx : nx < 2147483648) (hzn : zn.length ≤ 300) :
    Calls Tryd.prog 79 #[.pointer (some ⟨t.T, 0, none⟩), entV c a id uses hr name] w fun e w' => e = .returned (.tuple #[]) ∧ LT x t F cnt B (L1 ++ (a, blkE zu hr zn) :: L2) n0 w w' := by
  have H := Lib.hid h
  have HTB := Lib.hid ht
  have HHR := Lib.hid hhr
  have HNX := Lib.hid hnx
  have HZU := Lib.hid hzu
  clear h ht hhr hnx hzu
  unfold entV
  have b1 : Below w.heap.size w (w.alloc (.cells #[.int .i64 (c : Int), .int .i64 (a : Int), .int .i64 (id : Int), .int .i64 (uses : Int), .int .i64 (hr : Int), .string ⟨name.toArray⟩] 113)) := (Below.refl _ w).alloc (Nat.le_refl _) _
  have K1 := Lib.hid (LT.of (H.out.lx b1) HTB.out)
  have y8 := Blk.new w [.int .i64 (c : Int), .int .i64 (a : Int), .int .i64 (id : Int), .int .i64 (uses : Int), .int .i64 (hr : Int), .string ⟨name.toArray⟩] 113
  have K2 := Lib.hid (K1.out.putC cnt)
  have HY := Lib.hid (y8.other (K1.out.tb.box.ne y8 (by decide)).symm 2 (encI cnt))
  have hB := iblock_some x t B F.length cnt _ (a, blkE zu nx zn) n0 (a : Int) _ K2.out.at_ K2.out.tb.box (by simp) rfl (by simp only [blkE_len]; omega)
  obtain ⟨d1, d2, d3⟩ := dec_blk zu nx zn (by have := HZU.out; omega) (by have := HNX.out; omega)
  unfold BlockYes at hB
  simp only [d1, d2, d3] at hB
  have HB := Lib.hid hB
  clear hB d1 d2 d3
  obtain ⟨A, T, FF⟩ := t
  simp only at HB
  have c2 := K1.out.tb.box.cell (i := 2) rfl
  have f2 := K1.out.tb.box.frozen 2
  unfold encI at c2
  have ecn : ((cnt + 1 : Nat) : Int) = (cnt : Int) + 1 := by norm_cast
  rw [ecn] at c2
  have hTB : T ≠ w.heap.size := K1.out.tb.box.ne y8 (by decide)
  have hBT := hTB.symm
  have hne : ((a : Int) == 0) = false := by rw [beq_eq_false_iff_ne]; omega
  clear b1 ecn
  go_enter Tryd.func79, Tryd.ntmps79
  go_upto_region 2 with fail
  generalize hW2 : World.setCell _ _ _ = W2
  replace K2 : Hid (LT x ⟨A, T, FF⟩ F cnt B (L1 ++ (a, blkE zu nx zn) :: L2) n0 w W2) := by rw [← hW2]; exact K2
  replace HY : Hid (Blk W2 w.heap.size [.int .i64 (c : Int), .int .i64 (a : Int), .int .i64 (id : Int), .int .i64 (uses : Int), .int .i64 (hr : Int), .string ⟨name.toArray⟩] 113) := by rw [← hW2]; exact HY
  replace HB : Hid (Calls Tryd.prog 100 #[.pointer (some ⟨T, 0, none⟩), .int .i64 (a : Int)] W2 fun e w' => e = .returned (.tuple #[agB zu nx zn, .bool true]) ∧ LX x A B (L1 ++ (a, blkE zu nx zn) :: L2) n0 W2 w' ∧ Below W2.heap.size W2 w') := by rw [← hW2]; exact HB
  clear hW2 c2 f2 y8 K1 hTB hBT
  have z1 := HY.out.cell (i := 1) rfl
  go_wp2_with fail
  refine HB.out.mono ?_
  rintro e w3 ⟨rfl, _, b3⟩
  have K3 := Lib.hid (K2.out.after b3)
  have HY3 := Lib.hid (HY.out.kept (b3.block _ HY.out.lt))
  clear b3 HB z1 K2 HY
  unfold agB
  have y9 := Blk.new w3 [.int .i64 (zu : Int), .int .i64 (nx : Int), .string ⟨zn.toArray⟩] 111
  have z1 := (HY3.out.alloc (.cells #[.int .i64 (zu : Int), .int .i64 (nx : Int), .string ⟨zn.toArray⟩] 111)).cell (i := 1) rfl
  have z4 := (HY3.out.alloc (.cells #[.int .i64 (zu : Int), .int .i64 (nx : Int), .string ⟨zn.toArray⟩] 111)).cell (i := 4) rfl
  have q1 := y9.cell (i := 1) rfl
  have g1 := y9.frozen 1
  go_upto_region 6 with fail
  clear z1 z4 q1 g1 y9
  have k5 := K3.out.after ((Below.refl _ w3).alloc (Nat.le_refl _) (.cells #[.int .i64 (zu : Int), .int .i64 (hr : Int), .string ⟨zn.toArray⟩] 111))
  have hy5 := HY3.out.alloc (.cells #[.int .i64 (zu : Int), .int .i64 (hr : Int), .string ⟨zn.toArray⟩] 111)
  have y5 := Blk.new w3 [.int .i64 (zu : Int), .int .i64 (hr : Int), .string ⟨zn.toArray⟩] 111
  generalize hW5 : World.alloc _ _ = W5 at k5 hy5 ⊢
  replace y5 : Blk W5 w3.heap.size [.int .i64 (zu : Int), .int .i64 (hr : Int), .string ⟨zn.toArray⟩] 111 := by rw [← hW5]; exact y5
  clear hW5
  have K5 := Lib.hid k5
  have z1 := hy5.cell (i := 1) rfl
  have q0 := y5.cell (i := 0) rfl
  have q1 := y5.cell (i := 1) rfl
  have q2 := y5.cell (i := 2) rfl
  clear k5
  go_wp2_with fail
  refine (write_any x ⟨A, T, FF⟩ B F.length cnt L1 L2 a (blkE zu nx zn) n0 zu hr zn (a : Int) W5 rfl K5.out.at_ K5.out.tb.box (by rw [blkE_len]) (by omega) (by have := HZU.out; omega) (by have := HHR.out; omega)).mono ?_
  rintro e w8 ⟨rfl, h8⟩
  have K8 := Lib.hid (K5.out.go h8)
  clear h8
  go_wp2
  go_end0
  exact ⟨rfl, K8.out⟩
end Go.Proofs.YtdbaocphglijbaaDoor
