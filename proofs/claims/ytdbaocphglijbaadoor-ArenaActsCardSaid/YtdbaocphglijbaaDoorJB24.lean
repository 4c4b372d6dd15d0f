/- 6 texts put together: Icm, Iul, Idr, Idl, Ico, Ts. -/
import Derived.Test.YtdbaocphglijbaaDoorJB23
/- Package intern: a name leaves its chain. -/
set_option maxRecDepth 100000
namespace Go.Proofs.YtdbaocphglijbaaDoor
open Go.RowKit Go.Shelf
attribute [local go_sem] Oper.semAt_some
/-- Two names that are there have two ids. -/
theorem TI.id_ne {nn cnt : Nat} {C : Nat → List Ent} {F : List Nat} {L : List Bl} (I : TI nn C F cnt L) (hs : L.Pairwise (fun a b => a.1 < b.1)) {c k : Nat} (hc : c < nn) (hk : k < nn) {y e : Ent} (hy : y ∈ C c) (he : e ∈ C k) (hn : e.name ≠ y.name) : e.id ≠ y.id := fun hi => by
  obtain ⟨n1, _, h1⟩ := I.mem hc hy
  obtain ⟨n2, _, h2⟩ := I.mem hk he
  have h3 := srt_mem hs h2 h1 hi
  exact hn (congrArg (fun z => List.drop 8 z) (Prod.mk.inj h3).2)
theorem TI.far {nn cnt : Nat} {C : Nat → List Ent} {F : List Nat} {L : List Bl} (I : TI nn C F cnt L) {c k : Nat} (hc : c < nn) (hk : k < nn) (hkc : k ≠ c) {y e : Ent} (hy : y ∈ C c) (he : e ∈ C k) : e.name ≠ y.name := fun hn => hkc (by rw [← I.hash k hk e he, hn]; exact I.hash c hc y hy)
theorem nodup_mid {P R : List Ent} {y : Ent} (h : ((P ++ y :: R).map Ent.name).Nodup) : ∀ e ∈ P ++ R, e.name ≠ y.name := fun e he hn => by
  rw [List.map_append, List.map_cons, List.nodup_append] at h
  obtain ⟨_, h2, h3⟩ := h
  rw [List.nodup_cons] at h2
  rcases List.mem_append.1 he with he | he
  · exact h3 e.name (List.mem_map_of_mem he) y.name (by simp) hn
  · exact h2.1 (hn ▸ List.mem_map_of_mem he)
theorem lastId_mem {P : List Ent} (h : P ≠ []) : ∃ Q z, P = Q ++ [z] ∧ lastId P = z.id := by
  refine ⟨P.dropLast, P.getLast h, (List.dropLast_concat_getLast h).symm, ?_⟩
  conv => lhs; rw [← List.dropLast_concat_getLast h]
  exact lastId_snoc _ _
/-- A name leaves: the block that named its block names what it named. -/
theorem TI.cut {nn cnt c : Nat} {C : Nat → List Ent} {F : List Nat} {L L' : List Bl} {P R : List Ent} {y : Ent} (I : TI nn C F (cnt + 1) L) (hs : L.Pairwise (fun a b => a.1 < b.1)) (hc : c < nn) (hC : C c = P ++ y :: R) (hkeep : ∀ b ∈ L, b.1 ≠ y.id → (P ≠ [] → b.1 ≠ lastId P) → b ∈ L') (hpred : ∀ Q z, P = Q ++ [z] → (z.id, blkE z.uses (headId R) z.name) ∈ L') :
    TI nn (upd C c (P ++ R)) (F.set c (headId (P ++ R))) cnt L' := by
  have hyC : y ∈ C c := by rw [hC]; simp
  have hnd := I.names c hc
  have hne := nodup_mid (by rw [← hC]; exact hnd)
  have hPC : ∀ e ∈ P ++ R, e ∈ C c := fun e he => by
    rw [hC]
    rcases List.mem_append.1 he with he | he <;> simp [he]
  have hlim := I.clim
  refine I.chain hc rfl (by rw [hC]; simp; omega) (by omega) ?_ (fun k hk hkc e he d hd => hkeep _ hd (I.id_ne hs hc hk hyC he (I.far hc hk hkc hyC he)) fun hP => ?_) (fun e he => I.hash c hc e (hPC e he)) ?_ (fun e he => I.small c hc e (hPC e he))
  · have hl := I.link c hc
    rw [hC] at hl
    by_cases hP : P = []
    · subst hP
      exact linked_mono hl.2 fun e he d hd => hkeep _ hd (I.id_ne hs hc hc hyC (hPC e he) (hne e he)) fun h => absurd rfl h
    · obtain ⟨Q, z, rfl, hz⟩ := lastId_mem hP
      have hzC : z ∈ C c := hPC z (by simp)
      have hnz : ∀ e ∈ Q ++ R, e.name ≠ z.name := fun e he => by
        have h := nodup_mid (P := Q) (R := y :: R) (y := z) (by rw [hC] at hnd; simpa using hnd)
        exact h e (by rcases List.mem_append.1 he with he | he <;> simp [he])
      have key : ∀ (Q' : List Ent), (∀ e ∈ Q', e ∈ C c ∧ e.name ≠ y.name ∧ e.name ≠ z.name) → linked L (Q' ++ z :: y :: R) → linked L' (Q' ++ z :: R) := fun Q' => by
        induction Q' with
        | nil =>
          intro _ h
          exact ⟨hpred Q z rfl, linked_mono h.2.2 fun e he d hd => hkeep _ hd (I.id_ne hs hc hc hyC (hPC e (by simp [he])) (hne e (by simp [he]))) fun _ => by rw [hz]; exact I.id_ne hs hc hc hzC (hPC e (by simp [he])) (hnz e (by simp [he]))⟩
        | cons q Q' ih =>
          intro hq h
          obtain ⟨q1, q2, q3⟩ := hq q (by simp)
          refine ⟨?_, ih (fun e he => hq e (List.mem_cons_of_mem _ he)) h.2⟩
          have he : headId (Q' ++ z :: R) = headId (Q' ++ z :: y :: R) := by cases Q' <;> rfl
          show (q.id, blkE q.uses (headId (Q' ++ z :: R)) q.name) ∈ _
          rw [he]
          exact hkeep _ h.1 (I.id_ne hs hc hc hyC q1 q2) fun _ => by rw [hz]; exact I.id_ne hs hc hc hzC q1 q3
      have e1 : Q ++ [z] ++ y :: R = Q ++ z :: y :: R := by simp
      have e2 : Q ++ [z] ++ R = Q ++ z :: R := by simp
      rw [e1] at hl
      rw [e2]
      exact key Q (fun e he => ⟨hPC e (by simp [he]), hne e (by simp [he]), hnz e (by simp [he])⟩) hl
  · obtain ⟨Q, z, rfl, hz⟩ := lastId_mem hP
    have hzC : z ∈ C c := hPC z (by simp)
    rw [hz]
    exact I.id_ne hs hc hk hzC he (I.far hc hk hkc hzC he)
  · rw [hC] at hnd
    rw [List.map_append, List.map_cons] at hnd
    rw [List.map_append]
    exact hnd.sublist (List.Sublist.append (List.Sublist.refl _) (List.sublist_cons_self _ _))
end Go.Proofs.YtdbaocphglijbaaDoor

/- Package intern: unlink, both ways. -/
set_option maxRecDepth 100000
namespace Go.Proofs.YtdbaocphglijbaaDoor
open Go.RowKit Go.Shelf
attribute [local go_sem] Oper.semAt_some
def lens (L : List Bl) : List (Nat × Nat) := L.map fun b => (b.1, b.2.length)
/-- What is left of the blocks when one has been unlinked. -/
structure Unl (L Lm : List Bl) (P R : List Ent) : Prop where
  keep : ∀ b ∈ L, (P ≠ [] → b.1 ≠ lastId P) → b ∈ Lm
  pred : ∀ Q z, P = Q ++ [z] → (z.id, blkE z.uses (headId R) z.name) ∈ Lm
  lens : lens Lm = lens L
theorem unlink_any (x : Nat → Prop) (t : TB) (B nn cnt : Nat) (C : Nat → List Ent) (F : List Nat) (L : List Bl) (n0 c : Nat) (P R : List Ent) (y : Ent) (w : World) (h : HX x t.A B L n0 w) (ht : TbE x t F (cnt + 1) w) (I : TI nn C F (cnt + 1) L) (hc : c < nn) (hC : C c = P ++ y :: R) :
    Calls Tryd.prog 79 #[.pointer (some ⟨t.T, 0, none⟩), entV c (lastId P) y.id y.uses (headId R) y.name] w fun e w' => e = .returned (.tuple #[]) ∧ ∃ Lm, Unl L Lm P R ∧ LT x t (F.set c (headId (P ++ R))) cnt B Lm n0 w w' := by
  have hlen := I.len
  have hlim := I.lim
  have hcl := I.clim
  have hR : headId R < 2147483648 := headId_lt fun e he => (I.small c hc e (by rw [hC]; simp [he])).2.1
  by_cases hP : P = []
  · subst hP
    refine (unlink_first x t B cnt F L n0 c y.id y.uses (headId R) y.name w h ht (by omega) (by omega) (by omega) hR).mono fun e w' ⟨he, hL⟩ => ⟨he, L, ⟨fun b hb _ => hb, fun Q z hq => by simp at hq, rfl⟩, hL⟩
  · obtain ⟨Q, z, rfl, hz⟩ := lastId_mem hP
    have hl := I.link c hc
    have e1 : C c = Q ++ z :: y :: R := by rw [hC]; simp
    rw [e1] at hl
    have hm := linked_app hl
    obtain ⟨s1, s2, s3⟩ := I.small c hc z (by rw [hC]; simp)
    obtain ⟨y1, y2, y3⟩ := I.small c hc y (by rw [hC]; simp)
    obtain ⟨L1, L2, hL⟩ := List.append_of_mem hm
    obtain ⟨hs, hea⟩ := h.each
    have hp := (hea _ hm).1
    rw [hL] at h
    have hF : F.set c (headId (Q ++ [z] ++ R)) = F := set_same (by
      rw [I.first c hc, e1]
      cases Q <;> simp [headId])
    rw [hz, hF]
    refine (unlink_next x t B cnt F L1 L2 n0 c z.id y.id y.uses (headId R) z.uses y.id y.name z.name w h ht (by omega) hR hp s1 y2 s3).mono fun e w' ⟨he, hk⟩ => ⟨he, _, ⟨fun b hb hne => ?_, fun Q' z' hq => ?_, ?_⟩, hk⟩
    · have h1 := hne (by simp)
      rw [hz] at h1
      rw [hL] at hb
      rcases List.mem_append.1 hb with hb | hb
      · simp [hb]
      · rcases List.mem_cons.1 hb with hb | hb
        · exact absurd (by rw [hb]) h1
        · simp [hb]
    · obtain ⟨_, h2⟩ := List.append_inj' hq rfl
      obtain rfl : z = z' := by simpa using h2
      simp
    · rw [hL]
      unfold lens
      simp [blkE_len]
end Go.Proofs.YtdbaocphglijbaaDoor

/- Package intern: Drop. -/
set_option maxRecDepth 100000
namespace Go.Proofs.YtdbaocphglijbaaDoor
open Go.RowKit Go.Shelf
attribute [local go_sem] Oper.semAt_some
set_option maxHeartbeats 8000000 in
theorem drop_none (x : Nat → Prop) (t : TB) (B : Nat) (cnt : Nat) (F : List Nat) (L : List Bl) (n0 : Nat) (z : Int) (w : World) (h : HX x t.A B L n0 w) (ht : TbE x t F cnt w) (hz : ∀ b ∈ L, (b.1 : Int) ≠ z) :
    Calls Tryd.prog 38 #[.pointer (some ⟨t.T, 0, none⟩), .int .i64 z] w fun e w' => e = .returned (.int .i64 5) ∧ LX x t.A B L n0 w w' ∧ Below w.heap.size w w' := by
  have H := Lib.hid h
  have HH := Lib.hid (held_no x t B cnt F L n0 z w h ht hz)
  clear h ht hz
  obtain ⟨A, T, FF⟩ := t
  simp only at HH
  go_enter Tryd.func38, Tryd.ntmps38
  go_wp2_with fail
  refine HH.out.mono ?_
  rintro e w5 ⟨rfl, _, b5⟩
  have HB7 := Lib.hid (b5.alloc b5.size (.cells #[.int .i64 0, .int .i64 0, .int .i64 0, .int .i64 0, .int .i64 0, .string ⟨#[]⟩] 113))
  clear b5
  unfold entV
  go_wp2
  go_ret
  exact ⟨rfl, H.out.lx HB7.out, HB7.out⟩
set_option maxHeartbeats 600000 in
/-- One use less. -/
theorem drop_less (x : Nat → Prop) (t : TB) (B nn cnt : Nat) (C : Nat → List Ent) (F : List Nat) (L : List Bl) (n0 c : Nat) (y : Ent) (u : Nat) (z : Int) (w : World) (h : HX x t.A B L n0 w) (ht : TbE x t F cnt w) (I : TI nn C F cnt L) (hc : c < nn) (hy : y ∈ C c) (hu : y.uses = u + 1) (hu1 : 1 ≤ u) (hz : z = (y.id : Int)) :
    Calls Tryd.prog 38 #[.pointer (some ⟨t.T, 0, none⟩), .int .i64 z] w fun e w' => e = .returned (.int .i64 0) ∧ AddUp x t.A B C L n0 c y u w w' := by
  have H := Lib.hid h
  have HTB := Lib.hid ht
  have HI := Lib.hid I
  have HH := Lib.hid (held_yes x t B nn cnt C F L n0 c y z w h ht I hc hy hz)
  obtain ⟨hyu, hyi, hyn⟩ := I.small c hc y hy
  clear h ht I
  subst hz
  obtain ⟨A, T, FF⟩ := t
  simp only at HH
  go_enter Tryd.func38, Tryd.ntmps38
  go_wp2_with fail
  refine HH.out.mono ?_
  rintro e w5 ⟨_, b5, P, R, hPR, rfl⟩
  have HB5 := Lib.hid b5
  have HPR := Lib.hid hPR
  clear b5 hPR
  obtain ⟨a, ha⟩ : ∃ a, lastId P = a := ⟨_, rfl⟩
  obtain ⟨hr, hhr⟩ : ∃ hr, headId R = hr := ⟨_, rfl⟩
  have hhl : hr < 2147483648 := by rw [← hhr]; exact headId_lt fun e he => (HI.out.small c hc e (by rw [HPR.out]; simp [he])).2.1
  have hmem : (y.id, blkE y.uses (headId R) y.name) ∈ L := linked_app (P := P) (by rw [← HPR.out]; exact HI.out.link c hc)
  rw [ha, hhr]
  rw [hhr] at hmem
  obtain ⟨L1, L2, hL⟩ := List.append_of_mem hmem
  have HL := Lib.hid hL
  have HHR := Lib.hid hhr
  have HHL := Lib.hid hhl
  have HU := Lib.hid hu
  have hul : u < 2147483648 := by omega
  clear ha hhr hhl hmem hL hu
  unfold entV
  rw [HU.out]
  have ecu : ((u + 1 : Nat) : Int) = (u : Int) + 1 := by norm_cast
  rw [ecu]
  have esub : (u : Int) + 1 - 1 = (u : Int) := by omega
  have hgt : decide ((u : Int) + 1 > 1) = true := by rw [decide_eq_true_eq]; omega
  clear ecu
  have y8 := Blk.new w5 [.int .i64 (c : Int), .int .i64 (a : Int), .int .i64 (y.id : Int), .int .i64 ((u : Int) + 1), .int .i64 (hr : Int), .string ⟨y.name.toArray⟩] 113
  have z3 := y8.cell (i := 3) rfl
  have f3 := y8.frozen 3
  go_upto_region 6 with fail
  clear z3 f3 y8
  have hx7 := (H.out.after HB5.out).mine (.cells #[.int .i64 (c : Int), .int .i64 (a : Int), .int .i64 (y.id : Int), .int .i64 (u : Int), .int .i64 (hr : Int), .string ⟨y.name.toArray⟩] 113)
  have hb7 := HB5.out.alloc HB5.out.size (.cells #[.int .i64 (c : Int), .int .i64 (a : Int), .int .i64 (y.id : Int), .int .i64 (u : Int), .int .i64 (hr : Int), .string ⟨y.name.toArray⟩] 113)
  have y9 := Blk.new w5 [.int .i64 (c : Int), .int .i64 (a : Int), .int .i64 (y.id : Int), .int .i64 (u : Int), .int .i64 (hr : Int), .string ⟨y.name.toArray⟩] 113
  have hT7 := HTB.out.below hb7
  generalize hW7 : World.alloc _ _ = W7 at hx7 hb7 hT7 ⊢
  replace y9 : Blk W7 w5.heap.size [.int .i64 (c : Int), .int .i64 (a : Int), .int .i64 (y.id : Int), .int .i64 (u : Int), .int .i64 (hr : Int), .string ⟨y.name.toArray⟩] 113 := by rw [← hW7]; exact y9
  clear hW7
  have HX7 := Lib.hid hx7
  have HB7 := Lib.hid hb7
  have HT7 := Lib.hid hT7
  have Y9 := Lib.hid y9
  have z2 := y9.cell (i := 2) rfl
  have z3 := y9.cell (i := 3) rfl
  have z4 := y9.cell (i := 4) rfl
  have z5 := y9.cell (i := 5) rfl
  clear hx7 hb7 hT7 y9
  go_wp2_with fail
  refine (write_any (fun k => x k ∨ k = w5.heap.size) ⟨A, T, FF⟩ B F.length cnt L1 L2 y.id (blkE y.uses hr y.name) n0 u hr y.name (y.id : Int) W7 rfl (by rw [← HL.out]; exact HX7.out) HT7.out.box (by rw [blkE_len]) (by omega) (by have := HU.out; omega) (by have := HHL.out; omega)).mono ?_
  rintro e w8 ⟨rfl, h8⟩
  have H8 := Lib.hid (LX.from H.out HB7.out (h8.less (x := x) (fun k hk => .inl hk)))
  clear h8 z2 z3 z4 z5
  go_wp2
  go_ret
  exact ⟨rfl, P, R, L1, L2, HPR.out, by rw [HHR.out]; exact HL.out, by rw [HHR.out]; exact H8.out⟩
end Go.Proofs.YtdbaocphglijbaaDoor

/- Package intern: Drop, the last use. -/
set_option maxRecDepth 100000
namespace Go.Proofs.YtdbaocphglijbaaDoor
open Go.RowKit Go.Shelf
attribute [local go_sem] Oper.semAt_some
/-- A name has gone. -/
def DropLast (x : Nat → Prop) (t : TB) (B nn cnt : Nat) (C : Nat → List Ent) (_F : List Nat) (L : List Bl) (n0 c : Nat) (y : Ent) (w w' : World) : Prop :=
  ∃ P R F' L1 L2 M1 M2 b, C c = P ++ y :: R ∧ TI nn (upd C c (P ++ R)) F' cnt (L1 ++ L2) ∧ L = M1 ++ (y.id, b) :: M2 ∧ b.length = y.name.length + 8 ∧ lens L1 = lens M1 ∧ lens L2 = lens M2 ∧ LT x t F' cnt B (L1 ++ L2) n0 w w'
theorem lens_split {L1 L2 : List Bl} {i : Nat} {d : List UInt8} {M : List Bl} (h : lens (L1 ++ (i, d) :: L2) = lens M) : ∃ M1 M2 b, M = M1 ++ (i, b) :: M2 ∧ b.length = d.length ∧ lens L1 = lens M1 ∧ lens L2 = lens M2 := by
  unfold lens at h
  rw [List.map_append, List.map_cons] at h
  obtain ⟨M1, M', rfl, h1, h2⟩ := List.map_eq_append_iff.1 h.symm
  obtain ⟨⟨j, b⟩, M2, rfl, h3, h4⟩ := List.map_eq_cons_iff.1 h2
  obtain ⟨rfl, h5⟩ := Prod.mk.inj h3
  exact ⟨M1, M2, b, rfl, h5, h1.symm, h4.symm⟩
theorem lens_srt {L M : List Bl} (h : lens L = lens M) (hs : M.Pairwise (fun a b => a.1 < b.1)) : L.Pairwise (fun a b => a.1 < b.1) := by
  have h1 : (lens M).Pairwise (fun a b => a.1 < b.1) := by
    unfold lens; rw [List.pairwise_map]; exact hs
  rw [← h] at h1
  unfold lens at h1
  rw [List.pairwise_map] at h1
  exact h1
set_option maxHeartbeats 16000000 in
theorem drop_last (x : Nat → Prop) (t : TB) (B nn cnt : Nat) (C : Nat → List Ent) (F : List Nat) (L : List Bl) (n0 c : Nat) (y : Ent) (z : Int) (w : World) (h : HX x t.A B L n0 w) (ht : TbE x t F (cnt + 1) w) (I : TI nn C F (cnt + 1) L) (hc : c < nn) (hy : y ∈ C c) (hu : y.uses = 1) (hz : z = (y.id : Int)) :
    Calls Tryd.prog 38 #[.pointer (some ⟨t.T, 0, none⟩), .int .i64 z] w fun e w' => e = .returned (.int .i64 0) ∧ DropLast x t B nn cnt C F L n0 c y w w' := by
  have H := Lib.hid h
  have HTB := Lib.hid ht
  have HI := Lib.hid I
  have HH := Lib.hid (held_yes x t B nn (cnt + 1) C F L n0 c y z w h ht I hc hy hz)
  clear h ht I
  subst hz
  obtain ⟨A, T, FF⟩ := t
  simp only at HH
  go_enter Tryd.func38, Tryd.ntmps38
  go_wp2_with fail
  refine HH.out.mono ?_
  rintro e w5 ⟨_, b5, P, R, hPR, rfl⟩
  have HB5 := Lib.hid b5
  have HPR := Lib.hid hPR
  clear b5 hPR
  obtain ⟨a, ha⟩ : ∃ a, lastId P = a := ⟨_, rfl⟩
  obtain ⟨hr, hhr⟩ : ∃ hr, headId R = hr := ⟨_, rfl⟩
  rw [ha, hhr]
  have HHR := Lib.hid hhr
  have HA := Lib.hid ha
  have HU := Lib.hid hu
  clear ha hhr hu
  unfold entV
  rw [HU.out, show ((1 : Nat) : Int) = 1 from rfl]
  have y8 := Blk.new w5 [.int .i64 (c : Int), .int .i64 (a : Int), .int .i64 (y.id : Int), .int .i64 1, .int .i64 (hr : Int), .string ⟨y.name.toArray⟩] 113
  have z0 := y8.cell (i := 0) rfl
  have z1 := y8.cell (i := 1) rfl
  have z2 := y8.cell (i := 2) rfl
  have z3 := y8.cell (i := 3) rfl
  have z4 := y8.cell (i := 4) rfl
  have z5 := y8.cell (i := 5) rfl
  have hb7 := HB5.out.alloc HB5.out.size (.cells #[.int .i64 (c : Int), .int .i64 (a : Int), .int .i64 (y.id : Int), .int .i64 1, .int .i64 (hr : Int), .string ⟨y.name.toArray⟩] 113)
  have HB7 := Lib.hid hb7
  clear hb7
  have HUN := Lib.hid (unlink_any x ⟨A, T, FF⟩ B nn cnt C F L n0 c P R y _ (H.out.after HB7.out) (HTB.out.below HB7.out) HI.out hc HPR.out)
  unfold entV at HUN
  rw [HA.out, HHR.out, HU.out, show ((1 : Nat) : Int) = 1 from rfl] at HUN
  go_wp2_with fail
  refine HUN.out.mono ?_
  rintro e w8 ⟨rfl, Lm, hun, h8⟩
  have K8 := Lib.hid (LT.from (LT.of (H.out.lx HB7.out) HTB.out) h8)
  clear z0 z1 z2 z3 z4 z5 y8 h8 HUN
  have hmem : (y.id, blkE y.uses (headId R) y.name) ∈ L := linked_app (P := P) (by rw [← HPR.out]; exact HI.out.link c hc)
  have hyz : P ≠ [] → y.id ≠ lastId P := fun hP => by
    obtain ⟨Q, q, rfl, hq⟩ := lastId_mem hP
    have hnd := HI.out.names c hc
    rw [HPR.out] at hnd
    rw [hq]
    exact fun e => HI.out.id_ne H.out.each.1 hc hc hy (show q ∈ C c by rw [HPR.out]; simp) (nodup_mid hnd q (by simp)) e.symm
  have hm2 := hun.keep _ hmem hyz
  obtain ⟨L1, L2, hL⟩ := List.append_of_mem hm2
  obtain ⟨M1, M2, b, e1, e2, e3, e4⟩ := lens_split (M := L) (L1 := L1) (L2 := L2) (i := y.id) (d := blkE y.uses (headId R) y.name) (by rw [← hL]; exact hun.lens)
  have hTI : TI nn (upd C c (P ++ R)) (F.set c (headId (P ++ R))) cnt (L1 ++ L2) := HI.out.cut H.out.each.1 hc HPR.out (fun b hb h1 h2 => by
    have h3 := hun.keep b hb h2
    rw [hL] at h3
    rcases List.mem_append.1 h3 with h3 | h3
    · simp [h3]
    · rcases List.mem_cons.1 h3 with h3 | h3
      · exact absurd (by rw [h3]) h1
      · simp [h3]) (fun Q q hq => by
    have h3 := hun.pred Q q hq
    rw [hL] at h3
    rcases List.mem_append.1 h3 with h3 | h3
    · simp [h3]
    · rcases List.mem_cons.1 h3 with h3 | h3
      · exfalso
        refine hyz (by rw [hq]; simp) ?_
        rw [hq, lastId_snoc]
        exact (Prod.mk.inj h3).1.symm
      · simp [h3])
  have HTI := Lib.hid hTI
  have HR := Lib.hid (show ∃ M1 M2 b, L = M1 ++ (y.id, b) :: M2 ∧ b.length = y.name.length + 8 ∧ lens L1 = lens M1 ∧ lens L2 = lens M2 from ⟨M1, M2, b, e1, by rw [e2, blkE_len]; omega, e3, e4⟩)
  obtain ⟨F', hF'⟩ : ∃ F', F.set c (headId (P ++ R)) = F' := ⟨_, rfl⟩
  rw [hF'] at HTI K8
  clear hTI hm2 hmem hyz hun e1 e2 e3 e4 hF' b
  subst hL
  have c0 := K8.out.tb.box.cell (i := 0) rfl
  go_wp2_with fail
  refine (free_ok x A B L1 L2 (y.id, blkE y.uses (headId R) y.name) n0 (y.id : Int) w8 rfl K8.out.at_).mono ?_
  rintro e w9 ⟨rfl, h9⟩
  have K9 := Lib.hid (K8.out.go h9)
  clear h9 c0
  go_wp2
  go_ret
  obtain ⟨M1, M2, b, e1, e2, e3, e4⟩ := HR.out
  exact ⟨rfl, P, R, F', L1, L2, M1, M2, b, HPR.out, HTI.out, e1, e2, e3, e4, K9.out⟩
end Go.Proofs.YtdbaocphglijbaaDoor

/- Package intern: Cost. -/
set_option maxRecDepth 100000
namespace Go.Proofs.YtdbaocphglijbaaDoor
open Go.RowKit Go.Shelf
attribute [local go_sem] Oper.semAt_some
set_option maxHeartbeats 8000000 in
theorem icost_bad (t : Value) (n : List UInt8) (w : World) (hv : Nm.valid n = false) (hl : n.length ≤ 100000) :
    Calls Tryd.prog 43 #[t, .string ⟨n.toArray⟩] w fun e w' => e = .returned (.int .i64 0) ∧ w = w' := by
  have HV := Lib.hid (by have k := valid_any n w hl; rw [hv] at k; exact k)
  clear hv
  go_enter Tryd.func43, Tryd.ntmps43
  go_wp2_with fail
  refine HV.out.mono ?_
  rintro e w' ⟨rfl, rfl⟩
  go_wp2
  go_ret
  exact ⟨rfl, rfl⟩
set_option maxHeartbeats 8000000 in
theorem icost_yes (x : Nat → Prop) (t : TB) (B nn cnt : Nat) (C : Nat → List Ent) (F : List Nat) (L : List Bl) (n0 c : Nat) (y : Ent) (n : List UInt8) (w : World) (h : HX x t.A B L n0 w) (ht : TbE x t F cnt w) (I : TI nn C F cnt L) (hc : c < nn) (hy : y ∈ C c) (hv : Nm.valid n = true) (hz : Nm.fold n = y.name) (hl : n.length ≤ 100000) :
    Calls Tryd.prog 43 #[.pointer (some ⟨t.T, 0, none⟩), .string ⟨n.toArray⟩] w fun e w' => e = .returned (.int .i64 0) ∧ LX x t.A B L n0 w w' ∧ Below w.heap.size w w' := by
  have HV := Lib.hid (by have k := valid_any n w hl; rw [hv] at k; exact k)
  have HH := Lib.hid (tfind_yes x t B nn cnt C F L n0 c y n w h ht I hc hy hz hl)
  clear hv h ht I hz
  obtain ⟨A, T, FF⟩ := t
  simp only at HH
  go_enter Tryd.func43, Tryd.ntmps43
  go_wp2_with fail
  refine HV.out.mono ?_
  rintro e w' ⟨rfl, rfl⟩
  go_wp2_with fail
  refine HH.out.mono ?_
  rintro e w1 ⟨rfl, h1, b1⟩
  have K := Lib.hid h1
  have KB := Lib.hid b1
  clear h1 b1
  go_wp2
  go_ret
  exact ⟨rfl, K.out, KB.out⟩
set_option maxHeartbeats 8000000 in
theorem icost_no (x : Nat → Prop) (t : TB) (B nn cnt : Nat) (C : Nat → List Ent) (F : List Nat) (L : List Bl) (n0 : Nat) (n : List UInt8) (w : World) (h : HX x t.A B L n0 w) (ht : TbE x t F cnt w) (I : TI nn C F cnt L) (hv : Nm.valid n = true) (hl : n.length ≤ 100000) (hfl : (Nm.fold n).length ≤ 1000000) (hn : ∀ c, c < nn → ∀ e ∈ C c, e.name ≠ Nm.fold n) :
    Calls Tryd.prog 43 #[.pointer (some ⟨t.T, 0, none⟩), .string ⟨n.toArray⟩] w fun e w' => e = .returned (.int .i64 (Ar.costI ((n.length + 8 : Nat) : Int) : Int)) ∧ LX x t.A B L n0 w w' ∧ Below w.heap.size w w' := by
  have HV := Lib.hid (by have k := valid_any n w hl; rw [hv] at k; exact k)
  have HH := Lib.hid (tfind_no x t B nn cnt C F L n0 n w h ht I hl hfl hn)
  have HCC := Lib.hid (fun W => cost_call n.length (8 + (n.length : Int)) W rfl)
  clear hv h ht I hn
  obtain ⟨A, T, FF⟩ := t
  simp only at HH
  go_enter Tryd.func43, Tryd.ntmps43
  go_wp2_with fail
  refine HV.out.mono ?_
  rintro e w' ⟨rfl, rfl⟩
  go_wp2_with fail
  refine HH.out.mono ?_
  rintro e w1 ⟨rfl, h1, b1⟩
  have K := Lib.hid h1
  have KB := Lib.hid b1
  clear h1 b1
  go_wp2_with fail
  refine (HCC.out _).mono ?_
  rintro e w2 ⟨rfl, rfl⟩
  go_wp2
  go_ret
  exact ⟨rfl, K.out, KB.out⟩
end Go.Proofs.YtdbaocphglijbaaDoor

/- Package intern: a table by its names. -/
set_option maxRecDepth 100000
namespace Go.Proofs.YtdbaocphglijbaaDoor
open Go.RowKit Go.Shelf
attribute [local go_sem] Oper.semAt_some
def idl (E : List Ent) : List (Nat × Nat) := E.map fun e => (e.id, e.name.length + 8)
def costE (E : List Ent) : Nat := (E.map fun e => Ar.cost (e.name.length + 8)).sum
theorem costE_cons (e : Ent) (E : List Ent) : costE (e :: E) = Ar.cost (e.name.length + 8) + costE E := by simp [costE]
theorem costE_app (E M : List Ent) : costE (E ++ M) = costE E + costE M := by simp [costE]
/-- A table that has these names, and nothing else in its arena. -/
structure TS (x : Nat → Prop) (t : TB) (B nn : Nat) (E : List Ent) (n0 : Nat) (C : Nat → List Ent) (F : List Nat) (L : List Bl) (w : World) : Prop where
  hx : HX x t.A B L n0 w
  tb : TbE x t F E.length w
  ti : TI nn C F E.length L
  mem : ∀ e, e ∈ E ↔ ∃ c, c < nn ∧ e ∈ C c
  per : (lens L).Perm (idl E)
theorem sumC_lens (L : List Bl) : sumC L = ((lens L).map fun p => Ar.cost p.2).sum := by
  unfold sumC lens
  rw [List.map_map]
  rfl
theorem costE_idl (E : List Ent) : costE E = ((idl E).map fun p => Ar.cost p.2).sum := by
  unfold costE idl
  rw [List.map_map]
  rfl
theorem TS.sum {x : Nat → Prop} {t : TB} {B nn : Nat} {E : List Ent} {n0 : Nat} {C : Nat → List Ent} {F : List Nat} {L : List Bl} {w : World} (h : TS x t B nn E n0 C F L w) : sumC L = costE E := by
  rw [sumC_lens, costE_idl]
  exact (h.per.map _).sum_nat
theorem TS.ids {x : Nat → Prop} {t : TB} {B nn : Nat} {E : List Ent} {n0 : Nat} {C : Nat → List Ent} {F : List Nat} {L : List Bl} {w : World} (h : TS x t B nn E n0 C F L w) : (E.map Ent.id).Nodup := by
  have h1 : (E.map Ent.id) = (idl E).map Prod.fst := by unfold idl; rw [List.map_map]; rfl
  rw [h1]
  refine (h.per.map Prod.fst).nodup_iff.1 ?_
  unfold lens
  rw [List.map_map]
  have hs := h.hx.each.1
  unfold List.Nodup
  rw [List.pairwise_map]
  exact hs.imp fun hab => by simp only [Function.comp]; omega
theorem TS.no {x : Nat → Prop} {t : TB} {B nn : Nat} {E : List Ent} {n0 : Nat} {C : Nat → List Ent} {F : List Nat} {L : List Bl} {w : World} (h : TS x t B nn E n0 C F L w) {l : List UInt8} (hn : ∀ e ∈ E, e.name ≠ l) : ∀ c, c < nn → ∀ e ∈ C c, e.name ≠ l := fun c hc e he => hn e ((h.mem e).2 ⟨c, hc, he⟩)
theorem TS.noid {x : Nat → Prop} {t : TB} {B nn : Nat} {E : List Ent} {n0 : Nat} {C : Nat → List Ent} {F : List Nat} {L : List Bl} {w : World} (h : TS x t B nn E n0 C F L w) {z : Int} (hz : ∀ e ∈ E, (e.id : Int) ≠ z) : ∀ b ∈ L, (b.1 : Int) ≠ z := fun b hb => by
  have h1 : (b.1, b.2.length) ∈ lens L := List.mem_map.2 ⟨b, hb, rfl⟩
  obtain ⟨e, he, h2⟩ := List.mem_map.1 (h.per.mem_iff.1 h1)
  have h3 := (Prod.mk.inj h2).1
  rw [← h3]
  exact hz e he
/-- Names that stand in one place of one chain are put in another's place. -/
theorem mem_put {nn c : Nat} {C : Nat → List Ent} {E1 E2 P R : List Ent} {y : Ent} (M : List Ent) (hm : ∀ e, e ∈ E1 ++ y :: E2 ↔ ∃ k, k < nn ∧ e ∈ C k) (hid : ((E1 ++ y :: E2).map Ent.id).Nodup) (hc : c < nn) (hC : C c = P ++ y :: R) (hnd : ((C c).map Ent.name).Nodup) (hfar : ∀ k, k < nn → k ≠ c → ∀ e ∈ C k, e.name ≠ y.name) :
    ∀ e, e ∈ E1 ++ (M ++ E2) ↔ ∃ k, k < nn ∧ e ∈ upd C c (P ++ (M ++ R)) k := fun e => by
  have hne : ∀ e ∈ E1 ++ E2, e ≠ y := fun e he hy => by
    subst hy
    rw [List.map_append, List.map_cons, List.nodup_append] at hid
    obtain ⟨_, h2, h3⟩ := hid
    rw [List.nodup_cons] at h2
    rcases List.mem_append.1 he with he | he
    · exact h3 e.id (List.mem_map_of_mem he) e.id (by simp) rfl
    · exact h2.1 (List.mem_map_of_mem he)
  have hmid := nodup_mid (by rw [← hC]; exact hnd)
  constructor
  · intro he
    by_cases hM : e ∈ M
    · exact ⟨c, hc, by rw [upd_same]; simp [hM]⟩
    · have he1 : e ∈ E1 ++ E2 := by simpa [hM] using he
      obtain ⟨k, hk, hek⟩ := (hm e).1 (by rcases List.mem_append.1 he1 with h | h <;> simp [h])
      by_cases hkc : k = c
      · subst hkc
        rw [hC] at hek
        refine ⟨k, hk, ?_⟩
        rw [upd_same]
        rcases List.mem_append.1 hek with h | h
        · simp [h]
        · rcases List.mem_cons.1 h with h | h
          · exact absurd h (hne e he1)
          · simp [h]
      · exact ⟨k, hk, by rw [upd_other hkc]; exact hek⟩
  · rintro ⟨k, hk, hek⟩
    by_cases hM : e ∈ M
    · simp [hM]
    · have key : e ∈ E1 ++ y :: E2 → e ≠ y → e ∈ E1 ++ (M ++ E2) := fun h h' => by
        rcases List.mem_append.1 h with h | h
        · simp [h]
        · rcases List.mem_cons.1 h with h | h
          · exact absurd h h'
          · simp [h]
      by_cases hkc : k = c
      · subst hkc
        rw [upd_same] at hek
        have h1 : e ∈ P ++ R := by simpa [hM] using hek
        exact key ((hm e).2 ⟨k, hk, by rw [hC]; rcases List.mem_append.1 h1 with h | h <;> simp [h]⟩) fun h => hmid e h1 (by rw [h])
      · rw [upd_other hkc] at hek
        exact key ((hm e).2 ⟨k, hk, hek⟩) fun h => hfar k hk hkc e hek (by rw [h])
theorem TS.use {x : Nat → Prop} {t : TB} {B nn c u : Nat} {E1 E2 : List Ent} {n0 : Nat} {C : Nat → List Ent} {F : List Nat} {L : List Bl} {w w' : World} {y : Ent} (h : TS x t B nn (E1 ++ y :: E2) n0 C F L w) (hc : c < nn) (hy : y ∈ C c) (hu : u < 2147483648) (k : AddUp x t.A B C L n0 c y u w w') :
    ∃ C' L', TS x t B nn (E1 ++ ⟨y.id, u, y.name⟩ :: E2) n0 C' F L' w' ∧ LX x t.A B L' n0 w w' := by
  obtain ⟨P, R, L1, L2, hC, rfl, hk⟩ := k
  have hlen : (E1 ++ ⟨y.id, u, y.name⟩ :: E2).length = (E1 ++ y :: E2).length := by simp
  refine ⟨upd C c (P ++ ⟨y.id, u, y.name⟩ :: R), _, ⟨hk.at_, ?_, ?_, ?_, ?_⟩, hk⟩
  · rw [hlen]; exact h.tb.lx hk
  · rw [hlen]; exact h.ti.use h.hx.each.1 hc hC hu
  · exact mem_put [⟨y.id, u, y.name⟩] h.mem h.ids hc hC (h.ti.names c hc) fun k hk hkc e he => h.ti.far hc hk hkc hy he
  · have e1 : lens (L1 ++ (y.id, blkE u (headId R) y.name) :: L2) = lens (L1 ++ (y.id, blkE y.uses (headId R) y.name) :: L2) := by unfold lens; simp [blkE_len]
    have e2 : idl (E1 ++ ⟨y.id, u, y.name⟩ :: E2) = idl (E1 ++ y :: E2) := by unfold idl; simp
    rw [e1, e2]
    exact h.per
theorem TS.cut {x : Nat → Prop} {t : TB} {B nn c : Nat} {E1 E2 : List Ent} {n0 : Nat} {C : Nat → List Ent} {F : List Nat} {L : List Bl} {w w' : World} {y : Ent} (h : TS x t B nn (E1 ++ y :: E2) n0 C F L w) (hc : c < nn) (hy : y ∈ C c) (k : DropLast x t B nn (E1 ++ E2).length C F L n0 c y w w') :
    ∃ C' F' L', TS x t B nn (E1 ++ E2) n0 C' F' L' w' ∧ LT x t F' (E1 ++ E2).length B L' n0 w w' := by
  obtain ⟨P, R, F', L1, L2, M1, M2, b, hC, hI, hL, hb, e1, e2, hk⟩ := k
  refine ⟨upd C c (P ++ R), F', _, ⟨hk.at_, hk.tb, hI, ?_, ?_⟩, hk⟩
  · exact mem_put [] h.mem h.ids hc hC (h.ti.names c hc) fun k hk hkc e he => h.ti.far hc hk hkc hy he
  · have hp := h.per
    rw [hL] at hp
    unfold lens idl at hp
    rw [List.map_append, List.map_append, List.map_cons, List.map_cons] at hp
    have h1 := (List.perm_middle.symm.trans hp).trans List.perm_middle
    simp only [hb] at h1
    have h2 := h1.cons_inv
    unfold lens at e1 e2 ⊢
    unfold idl
    rw [List.map_append, List.map_append, e1, e2]
    exact h2
/-- The least id that no name has. -/
def LeastE (E : List Ent) (i : Nat) : Prop := 1 ≤ i ∧ (∀ e ∈ E, e.id ≠ i) ∧ ∀ j, 1 ≤ j → j < i → ∃ e ∈ E, e.id = j
theorem TS.push {x : Nat → Prop} {t : TB} {B nn : Nat} {E : List Ent} {n0 : Nat} {C : Nat → List Ent} {F : List Nat} {L : List Bl} {w w' : World} {l : List UInt8} {e : Ending} (h : TS x t B nn E n0 C F L w) (hl : l.length ≤ 300) (hn : ∀ e ∈ E, e.name ≠ l) (hE : E.length < 1000000) (k : PutOk x t B nn E.length C F L n0 l w e w') :
    ∃ (i : Nat) (C' : Nat → List Ent) (F' : List Nat) (L' : List Bl), e = .returned (.tuple #[.int .i64 (i : Int), .int .i64 0]) ∧ LeastE E i ∧ TS x t B nn (E ++ [⟨i, 1, l⟩]) n0 C' F' L' w' ∧ LT x t F' (E.length + 1) B L' n0 w w' := by
  obtain ⟨L1, L2, rfl, hle, he, hk⟩ := k
  have hid := least_le h.hx
  refine ⟨L1.length + 1, upd C (hashN l % nn) (⟨L1.length + 1, 1, l⟩ :: C (hashN l % nn)), _, _, he, ⟨by omega, ?_, ?_⟩, ⟨hk.at_, ?_, ?_, ?_, ?_⟩, hk⟩
  · intro e he hi
    have h1 : (e.id, e.name.length + 8) ∈ idl E := List.mem_map.2 ⟨e, he, rfl⟩
    obtain ⟨b, hb, h2⟩ := List.mem_map.1 (h.per.mem_iff.2 h1)
    have h3 := (Prod.mk.inj h2).1
    rcases List.mem_append.1 hb with hb | hb
    · obtain ⟨j, hj, rfl⟩ := List.mem_iff_getElem.1 hb
      have := hle.1 j hj
      omega
    · have := hle.2 b hb
      omega
  · intro j hj1 hj2
    have hj : j - 1 < L1.length := by omega
    have h1 := hle.1 (j - 1) hj
    have h2 : (L1[j - 1].1, L1[j - 1].2.length) ∈ lens (L1 ++ L2) := List.mem_map.2 ⟨L1[j - 1], by simp, rfl⟩
    obtain ⟨e, he, h3⟩ := List.mem_map.1 (h.per.mem_iff.1 h2)
    exact ⟨e, he, by have := (Prod.mk.inj h3).1; omega⟩
  · rw [List.length_append]; exact hk.tb
  · rw [List.length_append]
    exact h.ti.push (by omega) hl (h.no hn) hE
  · intro e
    have hc : hashN l % nn < nn := Nat.mod_lt _ h.ti.pos
    constructor
    · intro he
      rcases List.mem_append.1 he with he | he
      · obtain ⟨k, hk, hek⟩ := (h.mem e).1 he
        refine ⟨k, hk, ?_⟩
        by_cases hkc : k = hashN l % nn
        · subst hkc; rw [upd_same]; exact List.mem_cons_of_mem _ hek
        · rw [upd_other hkc]; exact hek
      · rw [List.mem_singleton] at he
        subst he
        exact ⟨_, hc, by rw [upd_same]; simp⟩
    · rintro ⟨k, hk, hek⟩
      by_cases hkc : k = hashN l % nn
      · subst hkc
        rw [upd_same] at hek
        rcases List.mem_cons.1 hek with rfl | hek
        · simp
        · exact List.mem_append_left _ ((h.mem e).2 ⟨_, hk, hek⟩)
      · rw [upd_other hkc] at hek
        exact List.mem_append_left _ ((h.mem e).2 ⟨_, hk, hek⟩)
  · have hp := h.per
    unfold lens idl at hp ⊢
    rw [List.map_append] at hp
    rw [List.map_append, List.map_append, List.map_cons]
    refine List.perm_middle.trans (((List.Perm.cons _ hp)).trans ?_)
    rw [blkE_len, Nat.add_comm 8 l.length]
    exact (List.perm_append_singleton _ _).symm
end Go.Proofs.YtdbaocphglijbaaDoor
