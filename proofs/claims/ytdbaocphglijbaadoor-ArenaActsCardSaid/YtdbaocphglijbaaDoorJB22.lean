/- 3 texts put together: Ihe, Iwp, Inw. -/
import Derived.Test.YtdbaocphglijbaaDoorJB19
import Derived.Test.YtdbaocphglijbaaDoorJB21
/- Package intern: what has an id. -/
set_option maxRecDepth 100000
namespace Go.Proofs.YtdbaocphglijbaaDoor
open Go.RowKit Go.Shelf
attribute [local go_sem] Oper.semAt_some
theorem nodup_at {l : List Ent} (h : (l.map Ent.name).Nodup) {P R : List Ent} {y z : Ent} (e : l = P ++ z :: R) (hy : y ∈ l) (hn : z.name = y.name) : z = y := by
  subst e
  unfold List.Nodup at h
  rw [List.pairwise_map, List.pairwise_append, List.pairwise_cons] at h
  rcases List.mem_append.1 hy with hy | hy
  · exact absurd hn.symm (h.2.2 y hy z (by simp))
  · rcases List.mem_cons.1 hy with rfl | hy
    · rfl
    · exact absurd hn (h.2.1.1 y hy)
def HeldYes (x : Nat → Prop) (A B : Nat) (C : Nat → List Ent) (L : List Bl) (n0 c : Nat) (y : Ent) (w : World) (e : Ending) (w' : World) : Prop :=
  LX x A B L n0 w w' ∧ Below w.heap.size w w' ∧ ∃ P R, C c = P ++ y :: R ∧ e = .returned (.tuple #[entV c (lastId P) y.id y.uses (headId R) y.name, .bool true])
theorem find_yes (x : Nat → Prop) (t : TB) (B nn cnt : Nat) (C : Nat → List Ent) (F : List Nat) (L : List Bl) (n0 c : Nat) (y : Ent) (w : World) (h : HX x t.A B L n0 w) (ht : TbE x t F cnt w) (I : TI nn C F cnt L) (hc : c < nn) (hy : y ∈ C c) :
    Calls Tryd.prog 74 #[.pointer (some ⟨t.T, 0, none⟩), .string ⟨y.name.toArray⟩] w (HeldYes x t.A B C L n0 c y w) := by
  have hs := I.small c hc y hy
  have hh := I.hash c hc y hy
  refine (find_any x t B nn cnt C F L n0 y.name w h ht I (by omega)).mono fun e w' ⟨hL, hb, hk⟩ => ⟨hL, hb, ?_⟩
  rw [hh] at hk
  rcases hk with ⟨h1, _⟩ | ⟨P, z, R, e1, e2, he⟩
  · exact absurd rfl (h1 y hy)
  · obtain rfl := nodup_at (I.names c hc) e1 hy e2
    exact ⟨P, R, e1, he⟩
theorem find_no (x : Nat → Prop) (t : TB) (B nn cnt : Nat) (C : Nat → List Ent) (F : List Nat) (L : List Bl) (n0 : Nat) (l : List UInt8) (w : World) (h : HX x t.A B L n0 w) (ht : TbE x t F cnt w) (I : TI nn C F cnt L) (hl : l.length ≤ 1000000) (hn : ∀ c, c < nn → ∀ e ∈ C c, e.name ≠ l) :
    Calls Tryd.prog 74 #[.pointer (some ⟨t.T, 0, none⟩), .string ⟨l.toArray⟩] w fun e w' => e = .returned (.tuple #[entV 0 0 0 0 0 [], .bool false]) ∧ LX x t.A B L n0 w w' ∧ Below w.heap.size w w' := by
  refine (find_any x t B nn cnt C F L n0 l w h ht I hl).mono fun e w' ⟨hL, hb, hk⟩ => ?_
  rcases hk with ⟨_, he⟩ | ⟨P, z, R, e1, e2, he⟩
  · exact ⟨he, hL, hb⟩
  · exact absurd e2 (hn _ (Nat.mod_lt _ I.pos) z (by rw [e1]; simp))
theorem TI.mem {nn cnt : Nat} {C : Nat → List Ent} {F : List Nat} {L : List Bl} (I : TI nn C F cnt L) {c : Nat} (hc : c < nn) {y : Ent} (hy : y ∈ C c) : ∃ nx, nx < 2147483648 ∧ (y.id, blkE y.uses nx y.name) ∈ L := by
  obtain ⟨P, R, e⟩ := List.append_of_mem hy
  exact ⟨headId R, headId_lt fun z hz => (I.small c hc z (by rw [e]; simp [hz])).2.1, linked_app (P := P) (by rw [← e]; exact I.link c hc)⟩
set_option maxHeartbeats 16000000 in
theorem held_yes (x : Nat → Prop) (t : TB) (B nn cnt : Nat) (C : Nat → List Ent) (F : List Nat) (L : List Bl) (n0 c : Nat) (y : Ent) (z : Int) (w : World) (h : HX x t.A B L n0 w) (ht : TbE x t F cnt w) (I : TI nn C F cnt L) (hc : c < nn) (hy : y ∈ C c) (hz : z = (y.id : Int)) :
    Calls Tryd.prog 78 #[.pointer (some ⟨t.T, 0, none⟩), .int .i64 z] w (HeldYes x t.A B C L n0 c y w) := by
  subst hz
  have h0 : FiSt x t B F cnt L n0 w (w.alloc (.cells #[.int .i64 0, .int .i64 0, .int .i64 0, .int .i64 0, .int .i64 0, .string ⟨#[]⟩] 113)) := by
    have hb : Below w.heap.size w (w.alloc (.cells #[.int .i64 0, .int .i64 0, .int .i64 0, .int .i64 0, .int .i64 0, .string ⟨#[]⟩] 113)) := (Below.refl _ w).alloc (Nat.le_refl _) _
    exact ⟨h.after hb, ht.below hb, Blk.new w _ _, hb⟩
  have H0 := Lib.hid h0
  have H := Lib.hid h
  have HI := Lib.hid I
  obtain ⟨nx, hnx, hmem⟩ := I.mem hc hy
  obtain ⟨hyu, hyi, hyn⟩ := I.small c hc y hy
  obtain ⟨d1, d2, d3⟩ := dec_blk y.uses nx y.name (by omega) (by omega)
  have hln := I.len
  have hB := iblock_some x t B F.length cnt L (y.id, blkE y.uses nx y.name) n0 (y.id : Int) _ h0.hx h0.tb.box hmem rfl (by simp only [blkE_len]; omega)
  unfold BlockYes at hB
  simp only [d1, d2, d3] at hB
  have HB := Lib.hid hB
  have HFD := Lib.hid (fun W (k : FiSt x t B F cnt L n0 w W) => find_yes x t B nn cnt C F L n0 c y W k.hx k.tb I hc hy)
  clear h0 h ht I hB hmem d1 d2 d3 hln hnx hyu hyi hyn
  obtain ⟨A, T, FF⟩ := t
  simp only at HB HFD
  go_enter Tryd.func78, Tryd.ntmps78
  go_wp2_with fail
  refine HB.out.mono ?_
  rintro e w3 ⟨rfl, _, b3⟩
  have H3 := Lib.hid (H0.out.after b3)
  clear b3 HB H0
  unfold agB
  have y9 := Blk.new w3 [.int .i64 (y.uses : Int), .int .i64 (nx : Int), .string ⟨y.name.toArray⟩] 111
  have z2 := y9.cell (i := 2) rfl
  have H4 := Lib.hid (H3.out.after ((Below.refl _ w3).alloc (Nat.le_refl _) (.cells #[.int .i64 (y.uses : Int), .int .i64 (nx : Int), .string ⟨y.name.toArray⟩] 111)))
  go_wp2_with fail
  refine (HFD.out _ H4.out).mono ?_
  rintro e w5 ⟨_, b5, P, R, hPR, rfl⟩
  have H5 := Lib.hid (H4.out.after b5)
  have HPR := Lib.hid hPR
  clear b5 hPR y9 z2 H4 H3
  obtain ⟨a, ha⟩ : ∃ a, lastId P = a := ⟨_, rfl⟩
  obtain ⟨hr, hhr⟩ : ∃ hr, headId R = hr := ⟨_, rfl⟩
  rw [ha, hhr]
  have HA := Lib.hid ha
  have HHR := Lib.hid hhr
  clear ha hhr
  unfold entV
  have y8 := Blk.new w5 [.int .i64 (c : Int), .int .i64 (a : Int), .int .i64 (y.id : Int), .int .i64 (y.uses : Int), .int .i64 (hr : Int), .string ⟨y.name.toArray⟩] 113
  have z0 := y8.cell (i := 0) rfl
  have z1 := y8.cell (i := 1) rfl
  have z2 := y8.cell (i := 2) rfl
  have z3 := y8.cell (i := 3) rfl
  have z4 := y8.cell (i := 4) rfl
  have z5 := y8.cell (i := 5) rfl
  have H6 := Lib.hid (H5.out.after ((Below.refl _ w5).alloc (Nat.le_refl _) (.cells #[.int .i64 (c : Int), .int .i64 (a : Int), .int .i64 (y.id : Int), .int .i64 (y.uses : Int), .int .i64 (hr : Int), .string ⟨y.name.toArray⟩] 113)))
  have r0 := H6.out.box.cell (i := 0) rfl
  have r1 := H6.out.box.cell (i := 1) rfl
  have r2 := H6.out.box.cell (i := 2) rfl
  have r3 := H6.out.box.cell (i := 3) rfl
  have r4 := H6.out.box.cell (i := 4) rfl
  have r5 := H6.out.box.cell (i := 5) rfl
  have fr := fun i => H6.out.box.frozen i
  go_wp2
  have k6 := six_end (n := w.heap.size) H6.out.box (Nat.le_refl _) rfl (.int .i64 (c : Int)) (.int .i64 (a : Int)) (.int .i64 (y.id : Int)) (.int .i64 (y.uses : Int)) (.int .i64 (hr : Int)) (.string ⟨y.name.toArray⟩)
  clear r0 r1 r2 r3 r4 r5 fr z0 z1 z2 z3 z4 z5 y8
  generalize World.setCell _ _ _ = W6 at k6 ⊢
  obtain ⟨k6, hb6⟩ := k6
  have hb7 := H6.out.bel.trans hb6
  have q0 := k6.cell (i := 0) rfl
  have q1 := k6.cell (i := 1) rfl
  have q2 := k6.cell (i := 2) rfl
  have q3 := k6.cell (i := 3) rfl
  have q4 := k6.cell (i := 4) rfl
  have q5 := k6.cell (i := 5) rfl
  exact bodyPost_ret (v := .tuple #[.agg #[.int .i64 (c : Int), .int .i64 (a : Int), .int .i64 (y.id : Int), .int .i64 (y.uses : Int), .int .i64 (hr : Int), .string ⟨y.name.toArray⟩], .bool true]) (by simp [results, Tryd.results78, go_sem, q0, q1, q2, q3, q4, q5]) rfl ⟨H.out.lx hb7, hb7, P, R, HPR.out, by rw [HA.out, HHR.out]; rfl⟩
set_option maxHeartbeats 16000000 in
theorem held_no (x : Nat → Prop) (t : TB) (B : Nat) (cnt : Nat) (F : List Nat) (L : List Bl) (n0 : Nat) (z : Int) (w : World) (h : HX x t.A B L n0 w) (ht : TbE x t F cnt w) (hz : ∀ b ∈ L, (b.1 : Int) ≠ z) :
    Calls Tryd.prog 78 #[.pointer (some ⟨t.T, 0, none⟩), .int .i64 z] w fun e w' => e = .returned (.tuple #[entV 0 0 0 0 0 [], .bool false]) ∧ LX x t.A B L n0 w w' ∧ Below w.heap.size w w' := by
  have h0 : FiSt x t B F cnt L n0 w (w.alloc (.cells #[.int .i64 0, .int .i64 0, .int .i64 0, .int .i64 0, .int .i64 0, .string ⟨#[]⟩] 113)) := by
    have hb : Below w.heap.size w (w.alloc (.cells #[.int .i64 0, .int .i64 0, .int .i64 0, .int .i64 0, .int .i64 0, .string ⟨#[]⟩] 113)) := (Below.refl _ w).alloc (Nat.le_refl _) _
    exact ⟨h.after hb, ht.below hb, Blk.new w _ _, hb⟩
  have H0 := Lib.hid h0
  have H := Lib.hid h
  have HB := Lib.hid (iblock_none x t B F.length cnt L n0 z _ h0.hx h0.tb.box hz)
  clear h0 h ht hz
  obtain ⟨A, T, FF⟩ := t
  simp only at HB
  go_enter Tryd.func78, Tryd.ntmps78
  go_wp2_with fail
  refine HB.out.mono ?_
  rintro e w3 ⟨rfl, _, b3⟩
  have H3 := Lib.hid (H0.out.after b3)
  clear b3 HB H0
  unfold agB
  have H6 := Lib.hid (H3.out.after ((Below.refl _ w3).alloc (Nat.le_refl _) (.cells #[.int .i64 0, .int .i64 0, .string ⟨#[]⟩] 111)))
  have r0 := H6.out.box.cell (i := 0) rfl
  have r1 := H6.out.box.cell (i := 1) rfl
  have r2 := H6.out.box.cell (i := 2) rfl
  have r3 := H6.out.box.cell (i := 3) rfl
  have r4 := H6.out.box.cell (i := 4) rfl
  have r5 := H6.out.box.cell (i := 5) rfl
  have fr := fun i => H6.out.box.frozen i
  go_wp2
  have k6 := six_end (n := w.heap.size) H6.out.box (Nat.le_refl _) rfl (.int .i64 0) (.int .i64 0) (.int .i64 0) (.int .i64 0) (.int .i64 0) (.string ⟨#[]⟩)
  clear r0 r1 r2 r3 r4 r5 fr
  generalize World.setCell _ _ _ = W6 at k6 ⊢
  obtain ⟨k6, hb6⟩ := k6
  have hb7 := H6.out.bel.trans hb6
  have q0 := k6.cell (i := 0) rfl
  have q1 := k6.cell (i := 1) rfl
  have q2 := k6.cell (i := 2) rfl
  have q3 := k6.cell (i := 3) rfl
  have q4 := k6.cell (i := 4) rfl
  have q5 := k6.cell (i := 5) rfl
  exact bodyPost_ret (v := .tuple #[.agg #[.int .i64 0, .int .i64 0, .int .i64 0, .int .i64 0, .int .i64 0, .string ⟨#[]⟩], .bool false]) (by simp [results, Tryd.results78, go_sem, q0, q1, q2, q3, q4, q5]) rfl ⟨rfl, H.out.lx hb7, hb7⟩
end Go.Proofs.YtdbaocphglijbaaDoor

/- Package intern: Name, Uses, Find, Count. -/
set_option maxRecDepth 100000
namespace Go.Proofs.YtdbaocphglijbaaDoor
open Go.RowKit Go.Shelf
attribute [local go_sem] Oper.semAt_some
set_option maxHeartbeats 8000000 in
theorem name_yes (x : Nat → Prop) (t : TB) (B nn cnt : Nat) (C : Nat → List Ent) (F : List Nat) (L : List Bl) (n0 c : Nat) (y : Ent) (z : Int) (w : World) (h : HX x t.A B L n0 w) (ht : TbE x t F cnt w) (I : TI nn C F cnt L) (hc : c < nn) (hy : y ∈ C c) (hz : z = (y.id : Int)) :
    Calls Tryd.prog 71 #[.pointer (some ⟨t.T, 0, none⟩), .int .i64 z] w fun e w' => e = .returned (.tuple #[.string ⟨y.name.toArray⟩, .bool true]) ∧ LX x t.A B L n0 w w' ∧ Below w.heap.size w w' := by
  have H := Lib.hid h
  have HH := Lib.hid (held_yes x t B nn cnt C F L n0 c y z w h ht I hc hy hz)
  clear h ht I hy hz
  obtain ⟨A, T, FF⟩ := t
  simp only at HH
  go_enter Tryd.func71, Tryd.ntmps71
  go_wp2_with fail
  refine HH.out.mono ?_
  rintro e w5 ⟨_, b5, P, R, hPR, rfl⟩
  have hb7 := b5.alloc b5.size (.cells #[.int .i64 (c : Int), .int .i64 ((lastId P : Nat) : Int), .int .i64 (y.id : Int), .int .i64 (y.uses : Int), .int .i64 ((headId R : Nat) : Int), .string ⟨y.name.toArray⟩] 113)
  have HB7 := Lib.hid hb7
  clear hb7 b5 hPR
  unfold entV
  have y8 := Blk.new w5 [.int .i64 (c : Int), .int .i64 ((lastId P : Nat) : Int), .int .i64 (y.id : Int), .int .i64 (y.uses : Int), .int .i64 ((headId R : Nat) : Int), .string ⟨y.name.toArray⟩] 113
  have z2 := y8.cell (i := 2) rfl
  have z3 := y8.cell (i := 3) rfl
  have z5 := y8.cell (i := 5) rfl
  go_wp2
  go_ret2
  exact ⟨rfl, H.out.lx HB7.out, HB7.out⟩
set_option maxHeartbeats 8000000 in
theorem name_no (x : Nat → Prop) (t : TB) (B : Nat) (cnt : Nat) (F : List Nat) (L : List Bl) (n0 : Nat) (z : Int) (w : World) (h : HX x t.A B L n0 w) (ht : TbE x t F cnt w) (hz : ∀ b ∈ L, (b.1 : Int) ≠ z) :
    Calls Tryd.prog 71 #[.pointer (some ⟨t.T, 0, none⟩), .int .i64 z] w fun e w' => e = .returned (.tuple #[.string ⟨#[]⟩, .bool false]) ∧ LX x t.A B L n0 w w' ∧ Below w.heap.size w w' := by
  have H := Lib.hid h
  have HH := Lib.hid (held_no x t B cnt F L n0 z w h ht hz)
  clear h ht hz
  obtain ⟨A, T, FF⟩ := t
  simp only at HH
  go_enter Tryd.func71, Tryd.ntmps71
  go_wp2_with fail
  refine HH.out.mono ?_
  rintro e w5 ⟨rfl, _, b5⟩
  have hb7 := b5.alloc b5.size (.cells #[.int .i64 0, .int .i64 0, .int .i64 0, .int .i64 0, .int .i64 0, .string ⟨#[]⟩] 113)
  have HB7 := Lib.hid hb7
  clear hb7 b5
  unfold entV
  have y8 := Blk.new w5 [.int .i64 0, .int .i64 0, .int .i64 0, .int .i64 0, .int .i64 0, .string ⟨#[]⟩] 113
  have z2 := y8.cell (i := 2) rfl
  have z3 := y8.cell (i := 3) rfl
  have z5 := y8.cell (i := 5) rfl
  go_wp2
  go_ret2
  exact ⟨rfl, H.out.lx HB7.out, HB7.out⟩
set_option maxHeartbeats 8000000 in
theorem uses_yes (x : Nat → Prop) (t : TB) (B nn cnt : Nat) (C : Nat → List Ent) (F : List Nat) (L : List Bl) (n0 c : Nat) (y : Ent) (z : Int) (w : World) (h : HX x t.A B L n0 w) (ht : TbE x t F cnt w) (I : TI nn C F cnt L) (hc : c < nn) (hy : y ∈ C c) (hz : z = (y.id : Int)) :
    Calls Tryd.prog 47 #[.pointer (some ⟨t.T, 0, none⟩), .int .i64 z] w fun e w' => e = .returned (.int .i64 (y.uses : Int)) ∧ LX x t.A B L n0 w w' ∧ Below w.heap.size w w' := by
  have H := Lib.hid h
  have HH := Lib.hid (held_yes x t B nn cnt C F L n0 c y z w h ht I hc hy hz)
  clear h ht I hy hz
  obtain ⟨A, T, FF⟩ := t
  simp only at HH
  go_enter Tryd.func47, Tryd.ntmps47
  go_wp2_with fail
  refine HH.out.mono ?_
  rintro e w5 ⟨_, b5, P, R, hPR, rfl⟩
  have hb7 := b5.alloc b5.size (.cells #[.int .i64 (c : Int), .int .i64 ((lastId P : Nat) : Int), .int .i64 (y.id : Int), .int .i64 (y.uses : Int), .int .i64 ((headId R : Nat) : Int), .string ⟨y.name.toArray⟩] 113)
  have HB7 := Lib.hid hb7
  clear hb7 b5 hPR
  unfold entV
  have y8 := Blk.new w5 [.int .i64 (c : Int), .int .i64 ((lastId P : Nat) : Int), .int .i64 (y.id : Int), .int .i64 (y.uses : Int), .int .i64 ((headId R : Nat) : Int), .string ⟨y.name.toArray⟩] 113
  have z2 := y8.cell (i := 2) rfl
  have z3 := y8.cell (i := 3) rfl
  have z5 := y8.cell (i := 5) rfl
  go_wp2
  go_ret
  exact ⟨rfl, H.out.lx HB7.out, HB7.out⟩
set_option maxHeartbeats 8000000 in
theorem uses_no (x : Nat → Prop) (t : TB) (B : Nat) (cnt : Nat) (F : List Nat) (L : List Bl) (n0 : Nat) (z : Int) (w : World) (h : HX x t.A B L n0 w) (ht : TbE x t F cnt w) (hz : ∀ b ∈ L, (b.1 : Int) ≠ z) :
    Calls Tryd.prog 47 #[.pointer (some ⟨t.T, 0, none⟩), .int .i64 z] w fun e w' => e = .returned (.int .i64 0) ∧ LX x t.A B L n0 w w' ∧ Below w.heap.size w w' := by
  have H := Lib.hid h
  have HH := Lib.hid (held_no x t B cnt F L n0 z w h ht hz)
  clear h ht hz
  obtain ⟨A, T, FF⟩ := t
  simp only at HH
  go_enter Tryd.func47, Tryd.ntmps47
  go_wp2_with fail
  refine HH.out.mono ?_
  rintro e w5 ⟨rfl, _, b5⟩
  have hb7 := b5.alloc b5.size (.cells #[.int .i64 0, .int .i64 0, .int .i64 0, .int .i64 0, .int .i64 0, .string ⟨#[]⟩] 113)
  have HB7 := Lib.hid hb7
  clear hb7 b5
  unfold entV
  have y8 := Blk.new w5 [.int .i64 0, .int .i64 0, .int .i64 0, .int .i64 0, .int .i64 0, .string ⟨#[]⟩] 113
  have z2 := y8.cell (i := 2) rfl
  have z3 := y8.cell (i := 3) rfl
  have z5 := y8.cell (i := 5) rfl
  go_wp2
  go_ret
  exact ⟨rfl, H.out.lx HB7.out, HB7.out⟩
set_option maxHeartbeats 8000000 in
theorem tfind_yes (x : Nat → Prop) (t : TB) (B nn cnt : Nat) (C : Nat → List Ent) (F : List Nat) (L : List Bl) (n0 c : Nat) (y : Ent) (n : List UInt8) (w : World) (h : HX x t.A B L n0 w) (ht : TbE x t F cnt w) (I : TI nn C F cnt L) (hc : c < nn) (hy : y ∈ C c) (hz : Nm.fold n = y.name) (hl : n.length ≤ 100000) :
    Calls Tryd.prog 41 #[.pointer (some ⟨t.T, 0, none⟩), .string ⟨n.toArray⟩] w fun e w' => e = .returned (.tuple #[.int .i64 (y.id : Int), .bool true]) ∧ LX x t.A B L n0 w w' ∧ Below w.heap.size w w' := by
  have H := Lib.hid h
  have HFO := Lib.hid (by have k := fold_any n w hl; rw [hz] at k; exact k)
  have HH := Lib.hid (fun W (hb : Below w.heap.size w W) => find_yes x t B nn cnt C F L n0 c y W (h.after hb) (ht.below hb) I hc hy)
  clear h ht I hy hz
  obtain ⟨A, T, FF⟩ := t
  simp only at HH
  go_enter Tryd.func41, Tryd.ntmps41
  go_wp2_with fail
  refine HFO.out.mono ?_
  rintro e w4 ⟨rfl, b4'⟩
  have HB4 := Lib.hid b4'
  clear b4'
  go_wp2_with fail
  refine (HH.out _ HB4.out).mono ?_
  rintro e w5 ⟨_, b5, P, R, hPR, rfl⟩
  have hb5 := HB4.out.trans (b5.mono HB4.out.size)
  have hb7 := hb5.alloc hb5.size (.cells #[.int .i64 (c : Int), .int .i64 ((lastId P : Nat) : Int), .int .i64 (y.id : Int), .int .i64 (y.uses : Int), .int .i64 ((headId R : Nat) : Int), .string ⟨y.name.toArray⟩] 113)
  have HB7 := Lib.hid hb7
  clear hb7 b5 hb5 hPR
  unfold entV
  have y8 := Blk.new w5 [.int .i64 (c : Int), .int .i64 ((lastId P : Nat) : Int), .int .i64 (y.id : Int), .int .i64 (y.uses : Int), .int .i64 ((headId R : Nat) : Int), .string ⟨y.name.toArray⟩] 113
  have z2 := y8.cell (i := 2) rfl
  go_wp2
  go_ret2
  exact ⟨rfl, H.out.lx HB7.out, HB7.out⟩
set_option maxHeartbeats 8000000 in
theorem tfind_no (x : Nat → Prop) (t : TB) (B nn cnt : Nat) (C : Nat → List Ent) (F : List Nat) (L : List Bl) (n0 : Nat) (n : List UInt8) (w : World) (h : HX x t.A B L n0 w) (ht : TbE x t F cnt w) (I : TI nn C F cnt L) (hl : n.length ≤ 100000) (hfl : (Nm.fold n).length ≤ 1000000) (hn : ∀ c, c < nn → ∀ e ∈ C c, e.name ≠ Nm.fold n) :
    Calls Tryd.prog 41 #[.pointer (some ⟨t.T, 0, none⟩), .string ⟨n.toArray⟩] w fun e w' => e = .returned (.tuple #[.int .i64 0, .bool false]) ∧ LX x t.A B L n0 w w' ∧ Below w.heap.size w w' := by
  have H := Lib.hid h
  have HFO := Lib.hid (fold_any n w hl)
  have HH := Lib.hid (fun W (hb : Below w.heap.size w W) => find_no x t B nn cnt C F L n0 (Nm.fold n) W (h.after hb) (ht.below hb) I hfl hn)
  clear h ht I hn
  obtain ⟨A, T, FF⟩ := t
  simp only at HH
  go_enter Tryd.func41, Tryd.ntmps41
  go_wp2_with fail
  refine HFO.out.mono ?_
  rintro e w4 ⟨rfl, b4'⟩
  have HB4 := Lib.hid b4'
  clear b4'
  go_wp2_with fail
  refine (HH.out _ HB4.out).mono ?_
  rintro e w5 ⟨rfl, _, b5⟩
  have hb5 := HB4.out.trans (b5.mono HB4.out.size)
  have hb7 := hb5.alloc hb5.size (.cells #[.int .i64 0, .int .i64 0, .int .i64 0, .int .i64 0, .int .i64 0, .string ⟨#[]⟩] 113)
  have HB7 := Lib.hid hb7
  clear hb7 b5 hb5
  unfold entV
  have y8 := Blk.new w5 [.int .i64 0, .int .i64 0, .int .i64 0, .int .i64 0, .int .i64 0, .string ⟨#[]⟩] 113
  have z2 := y8.cell (i := 2) rfl
  go_wp2
  go_ret2
  exact ⟨rfl, H.out.lx HB7.out, HB7.out⟩
theorem count_any (x : Nat → Prop) (t : TB) (F : List Nat) (cnt : Nat) (w : World) (ht : TbE x t F cnt w) :
    Calls Tryd.prog 48 #[.pointer (some ⟨t.T, 0, none⟩)] w fun e w' => e = .returned (.int .i64 (cnt : Int)) ∧ w = w' := by
  obtain ⟨A, T, FF⟩ := t
  have c2 := ht.box.cell (i := 2) rfl
  unfold encI at c2
  go_enter Tryd.func48, Tryd.ntmps48
  go_wp2
  go_ret
  exact ⟨rfl, rfl⟩
end Go.Proofs.YtdbaocphglijbaaDoor

/- Package intern: New, Cost. -/
set_option maxRecDepth 100000
namespace Go.Proofs.YtdbaocphglijbaaDoor
open Go.RowKit Go.Shelf
attribute [local go_sem] Oper.semAt_some
theorem budget_x (x : Nat → Prop) (A B : Nat) (L : List Bl) (n0 : Nat) (w : World) (h : HX x A B L n0 w) : Calls Tryd.prog 68 #[.pointer (some ⟨A, 0, none⟩)] w fun e w' => e = .returned (.int .i64 (B : Int)) ∧ w = w' := by
  obtain ⟨bs, ⟨L', S, pcs, a, I, e, rfl⟩, hv⟩ := h.ex
  exact budget_any A L' S _ w a
def emptyF (B : Nat) : List Nat := List.replicate (1 + B / 64) 0
theorem tot_nil : ∀ n, tot (fun _ => []) n = 0
  | 0 => rfl
  | n + 1 => by unfold tot; rw [tot_nil n]; rfl
theorem ti_empty (B : Nat) (hB : B ≤ 1048576) (L : List Bl) : TI (1 + B / 64) (fun _ => []) (emptyF B) 0 L := by
  refine ⟨by omega, by omega, by simp [emptyF], fun c hc => ?_, fun _ _ => trivial, fun _ _ e he => (by cases he), fun _ _ => List.nodup_nil, tot_nil _, by omega, fun _ _ e he => (by cases he)⟩
  unfold emptyF
  rw [List.getElem?_replicate, if_pos hc]
  rfl
def INewRet (x : Nat → Prop) (A B : Nat) (L : List Bl) (n0 : Nat) (w : World) (e : Ending) (w' : World) : Prop :=
  ∃ T F, e = .returned (.pointer (some ⟨T, 0, none⟩)) ∧ HX (fun k => x k ∨ k = F ∨ k = T) A B L n0 w' ∧ TbE (fun k => x k ∨ k = F ∨ k = T) ⟨A, T, F⟩ (emptyF B) 0 w' ∧ Below w.heap.size w w'
theorem inew_end {x : Nat → Prop} {A B : Nat} {L : List Bl} {n0 : Nat} {w : World} (h : HX x A B L n0 w) (n : Nat) (hn : n = 1 + B / 64) :
    INewRet x A B L n0 w (.returned (.pointer (some ⟨w.heap.size + 1, 0, none⟩))) ((w.alloc (.cells (Array.replicate n (.int .i32 0)) 21)).alloc (.cells #[.pointer (some ⟨A, 0, none⟩), .slice (some ⟨w.heap.size, 0, none⟩) n n, .int .i64 0] 109)) := by
  subst hn
  have s1 : (w.alloc (.cells (Array.replicate (1 + B / 64) (.int .i32 0)) 21)).heap.size = w.heap.size + 1 := World.size_alloc _ _
  have h2 := (h.mine (.cells (Array.replicate (1 + B / 64) (.int .i32 0)) 21)).mine (.cells #[.pointer (some ⟨A, 0, none⟩), .slice (some ⟨w.heap.size, 0, none⟩) (1 + B / 64) (1 + B / 64), .int .i64 0] 109)
  have y1 := Blk.new w ((emptyF B).map encF) 21
  have e1 : ((emptyF B).map encF).toArray = Array.replicate (1 + B / 64) (.int .i32 0) := by unfold emptyF; rw [List.map_replicate, List.toArray_replicate]; rfl
  rw [e1] at y1
  have y2 := Blk.new (w.alloc (.cells (Array.replicate (1 + B / 64) (.int .i32 0)) 21)) (tbBox ⟨A, w.heap.size + 1, w.heap.size⟩ (1 + B / 64) 0) 109
  refine ⟨w.heap.size + 1, w.heap.size, rfl, h2.less (fun k e => by rcases e with e | e | e; exact .inl (.inl e); exact .inl (.inr e); exact .inr (by rw [s1]; exact e)), ⟨?_, y1.alloc _, .inr (.inr rfl), .inr (.inl rfl)⟩, ((Below.refl _ w).alloc (Nat.le_refl _) _).alloc (by rw [s1]; omega) _⟩
  rw [s1] at y2
  show Blk _ (w.heap.size + 1) (tbBox _ (emptyF B).length 0) _
  rw [show (emptyF B).length = 1 + B / 64 by simp [emptyF]]
  exact y2
set_option maxHeartbeats 8000000 in
theorem inew_any (x : Nat → Prop) (A B : Nat) (L : List Bl) (n0 : Nat) (w : World) (h : HX x A B L n0 w) :
    Calls Tryd.prog 35 #[.pointer (some ⟨A, 0, none⟩)] w (INewRet x A B L n0 w) := by
  have hB := h.sum_le.2
  have HBU := Lib.hid (budget_x x A B L n0 w h)
  obtain ⟨n, hn⟩ : ∃ n, n = 1 + B / 64 := ⟨_, rfl⟩
  have HE := Lib.hid (inew_end h n hn)
  have hmk := fun W => (by have h := make_one (e := 21) Tryd.underlying85 infoI32 (by decide) rfl (1 + (B : Int) / 64) n (by omega) (by omega) W; rw [List.toArray_replicate] at h; exact h : (Instr.makeSlice 85 (.int .i64 (1 + (B : Int) / 64)) (.int .i64 (1 + (B : Int) / 64))).run Tryd.prog W = .ok (.slice (some ⟨W.heap.size, 0, none⟩) n n) (W.alloc (.cells (Array.replicate n (.int .i32 0)) 21)))
  clear hn h
  go_enter Tryd.func35, Tryd.ntmps35
  go_wp2_with fail
  refine HBU.out.mono ?_
  rintro e w' ⟨rfl, rfl⟩
  go_wp2
  go_ret
  exact HE.out
/-- What a name would cost. -/
theorem cost_call (n : Nat) (z : Int) (w : World) (hz : z = 8 + (n : Int)) : Calls Tryd.prog 30 #[.int .i64 z] w fun e w' => e = .returned (.int .i64 (Ar.costI ((n + 8 : Nat) : Int) : Int)) ∧ w = w' := by
  subst hz
  have h := cost_any ((n + 8 : Nat) : Int) w
  rw [show ((n + 8 : Nat) : Int) = 8 + (n : Int) by omega] at h ⊢
  exact h
end Go.Proofs.YtdbaocphglijbaaDoor
