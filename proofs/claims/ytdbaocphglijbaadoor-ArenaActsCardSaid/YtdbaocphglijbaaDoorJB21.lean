/- 2 texts put together: Ibl, Ifi. -/
import Derived.Deep.RegionWith
import Derived.BigRegion
import Derived.Test.YtdbaocphglijbaaDoorJB20
/- Package intern: a block is read. -/
set_option maxRecDepth 100000
namespace Go.Proofs.YtdbaocphglijbaaDoor
open Go.RowKit Go.Shelf
attribute [local go_sem] Oper.semAt_some
theorem RdB.drop {ao : Option Addr} {n c k : Nat} {l : List UInt8} {W : World} (h : RdB (.slice ao n c) l W) (hc : n ≤ c) (hk : k ≤ n) :
    ∃ ao', (∀ W' : World, (Instr.slice 34 (.slice ao n c) (some (.int .i64 (k : Int))) none none).run Tryd.prog W' = .ok (.slice ao' (n - k) (c - k)) W') ∧ (∀ W', RdB (.slice ao n c) l W' → RdB (.slice ao' (n - k) (c - k)) (l.drop k) W') := by
  have hn : n = l.length := by
    obtain ⟨_, _, e, _⟩ := h.form
    cases e; rfl
  subst hn
  have hu : Tryd.prog.underlying 34 = some (.slice (Tryd.prog.elem 34)) := by kernel_rfl
  have hs : ∀ W', (sizeOf (Tryd.prog.elem 34)).run Tryd.prog W' = .ok 1 W' := fun W' => by
    obtain ⟨i, hi, _, h1, _⟩ := info_parts infoU8
    have he : Tryd.prog.elem 34 = 5 := by kernel_rfl
    rw [he]
    simp [sizeOf, typeInfo, hi, h1]
  refine ⟨if c = k then ao else ao.map (·.add (k * 1)), fun W' => by rw [run_slice_l (w := W') 34 ao l.length c hu .i64 (k : Int) (by omega) (by omega), hs W']; rfl, fun W' h' => ⟨_, _, by rw [List.length_drop], fun j hj => ?_⟩⟩
  rw [List.length_drop] at hj
  obtain ⟨ao', cap', e, hc'⟩ := h'.form
  cases e
  obtain ⟨g, off, e, c0⟩ := hc' (k + j) (by omega)
  subst e
  refine ⟨g, off + k, by rw [if_neg (by omega)]; simp [Addr.add], ?_⟩
  rw [List.getElem_drop, Nat.add_assoc]
  exact c0
def agB (uses next : Nat) (name : List UInt8) : Value := .agg #[.int .i64 (uses : Int), .int .i64 (next : Int), .string ⟨name.toArray⟩]
def BlockNo (x : Nat → Prop) (A B : Nat) (L : List Bl) (n0 : Nat) (w : World) (e : Ending) (w' : World) : Prop := e = .returned (.tuple #[agB 0 0 [], .bool false]) ∧ LX x A B L n0 w w' ∧ Below w.heap.size w w'
set_option maxHeartbeats 8000000 in
theorem iblock_none (x : Nat → Prop) (t : TB) (B nn cnt : Nat) (L : List Bl) (n0 : Nat) (z : Int) (w : World) (h : HX x t.A B L n0 w) (hb : Blk w t.T (tbBox t nn cnt) 109) (hz : ∀ b ∈ L, (b.1 : Int) ≠ z) :
    Calls Tryd.prog 100 #[.pointer (some ⟨t.T, 0, none⟩), .int .i64 z] w (BlockNo x t.A B L n0 w) := by
  obtain ⟨A, T, F⟩ := t
  have hT := hb.lt
  have HB := Lib.hid hb
  have H := Lib.hid h
  have HZ := Lib.hid hz
  clear h hb hz
  have c0 := (HB.out.alloc (.cells #[.int .i64 0, .int .i64 0, .string ⟨#[]⟩] 111)).cell (i := 0) rfl
  have H1 := Lib.hid (H.out.lx ((Below.refl _ w).alloc (Nat.le_refl _) (.cells #[.int .i64 0, .int .i64 0, .string ⟨#[]⟩] 111)))
  go_enter Tryd.func100, Tryd.ntmps100
  have HR0 := Lib.hid (Blk.new w [.int .i64 0, .int .i64 0, .string ⟨#[]⟩] 111)
  have hsz : (w.alloc (.cells #[.int .i64 0, .int .i64 0, .string ⟨#[]⟩] 111)).heap.size = w.heap.size + 1 := World.size_alloc _ _
  have HSZ := Lib.hid hsz
  clear hsz
  go_wp2_with fail
  refine (size_none' x A B L n0 z _ HZ.out H1.out.at_).mono ?_
  rintro e w2 ⟨rfl, h2, b2⟩
  have H2 := Lib.hid (H1.out.to h2)
  have hb2 : Below (w.heap.size + 1) (w.alloc (.cells #[.int .i64 0, .int .i64 0, .string ⟨#[]⟩] 111)) w2 := by rw [← HSZ.out]; exact b2
  have hw2 : Below w.heap.size w w2 := ((Below.refl _ w).alloc (Nat.le_refl _) _).trans (hb2.mono (by omega))
  have c2 := (HB.out.kept (hw2.block _ hT)).cell (i := 0) rfl
  have HR2 := Lib.hid (HR0.out.kept (hb2.block _ (by omega)))
  have HW2 := Lib.hid hw2
  clear h2 b2 hb2 hw2 c0
  go_wp2_with fail
  refine (read_none x A B L n0 z 0 0 _ HZ.out H2.out.at_ (by omega) (by omega) (by omega) (by omega)).mono ?_
  rintro e w3 ⟨rfl, h3, b3⟩
  have H3 := Lib.hid (H2.out.to h3)
  have hw3 : Below w.heap.size w w3 := HW2.out.trans (b3.mono HW2.out.size)
  have HR3 := Lib.hid (HR2.out.kept (b3.block _ HR2.out.lt))
  have HW3 := Lib.hid hw3
  have hsz3 : w.heap.size < w3.heap.size := HR3.out.lt
  clear h3 b3 hw3 c2
  have r0 := HR3.out.cell (i := 0) rfl
  have r1 := HR3.out.cell (i := 1) rfl
  have r2 := HR3.out.cell (i := 2) rfl
  have f0 := HR3.out.frozen 0
  have f1 := HR3.out.frozen 1
  have f2 := HR3.out.frozen 2
  go_wp2
  have hr4 := ((HR3.out.set 0 (.int .i64 0)).set 1 (.int .i64 0)).set 2 (.string ⟨#[]⟩)
  have hb4 := ((HW3.out.setCell (p := ⟨w.heap.size, 0, none⟩) (Nat.le_refl _) (.int .i64 0)).setCell (p := ⟨w.heap.size, 1, none⟩) (Nat.le_refl _) (.int .i64 0)).setCell (p := ⟨w.heap.size, 2, none⟩) (Nat.le_refl _) (.string ⟨#[]⟩)
  clear r0 r1 r2 f0 f1 f2
  generalize World.setCell _ _ _ = W4 at hr4 hb4 ⊢
  have q0 := hr4.cell (i := 0) rfl
  have q1 := hr4.cell (i := 1) rfl
  have q2 := hr4.cell (i := 2) rfl
  exact bodyPost_ret (v := .tuple #[.agg #[.int .i64 0, .int .i64 0, .string ⟨#[]⟩], .bool false]) (by simp [results, Tryd.results100, go_sem, q0, q1, q2]) rfl ⟨rfl, H.out.lx hb4, hb4⟩
def BlockYes (x : Nat → Prop) (A B : Nat) (L : List Bl) (n0 : Nat) (d : List UInt8) (w : World) (e : Ending) (w' : World) : Prop := e = .returned (.tuple #[agB (dec4 d) (dec4 (d.drop 4)) (d.drop 8), .bool true]) ∧ LX x A B L n0 w w' ∧ Below w.heap.size w w'
set_option maxHeartbeats 16000000 in
theorem iblock_some (x : Nat → Prop) (t : TB) (B nn cnt : Nat) (L : List Bl) (b : Bl) (n0 : Nat) (z : Int) (w : World) (h : HX x t.A B L n0 w) (hb : Blk w t.T (tbBox t nn cnt) 109) (hm : b ∈ L) (hz : z = (b.1 : Int)) (hl : 8 ≤ b.2.length) :
    Calls Tryd.prog 100 #[.pointer (some ⟨t.T, 0, none⟩), .int .i64 z] w (BlockYes x t.A B L n0 b.2 w) := by
  obtain ⟨A, T, F⟩ := t
  obtain ⟨id, d⟩ := b
  simp only at hz hl hm ⊢
  have hT := hb.lt
  have hd4 := (h.each.2 _ hm).2
  simp only at hd4
  have HB := Lib.hid hb
  have H := Lib.hid h
  have HM := Lib.hid hm
  have HZ := Lib.hid hz
  clear h hb hz hm
  have c0 := (HB.out.alloc (.cells #[.int .i64 0, .int .i64 0, .string ⟨#[]⟩] 111)).cell (i := 0) rfl
  have H1 := Lib.hid (H.out.lx ((Below.refl _ w).alloc (Nat.le_refl _) (.cells #[.int .i64 0, .int .i64 0, .string ⟨#[]⟩] 111)))
  have HR0 := Lib.hid (Blk.new w [.int .i64 0, .int .i64 0, .string ⟨#[]⟩] 111)
  have hsz : (w.alloc (.cells #[.int .i64 0, .int .i64 0, .string ⟨#[]⟩] 111)).heap.size = w.heap.size + 1 := World.size_alloc _ _
  have HSZ := Lib.hid hsz
  clear hsz
  go_enter Tryd.func100, Tryd.ntmps100
  go_wp2_with fail
  refine (size_ok x A B L (id, d) n0 z _ HZ.out HM.out H1.out.at_).mono ?_
  rintro e w2 ⟨rfl, h2, b2⟩
  have H2 := Lib.hid (H1.out.to h2)
  have hb2 : Below (w.heap.size + 1) (w.alloc (.cells #[.int .i64 0, .int .i64 0, .string ⟨#[]⟩] 111)) w2 := by rw [← HSZ.out]; exact b2
  have hw2 : Below w.heap.size w w2 := ((Below.refl _ w).alloc (Nat.le_refl _) _).trans (hb2.mono (by omega))
  have c2 := (HB.out.kept (hw2.block _ hT)).cell (i := 0) rfl
  have HR2 := Lib.hid (HR0.out.kept (hb2.block _ (by omega)))
  have HW2 := Lib.hid hw2
  clear h2 b2 hb2 hw2 c0
  simp only
  go_wp2_with fail
  refine (read_ok x A B L (id, d) n0 z 0 (d.length : Int) 0 d.length _ HZ.out rfl rfl HM.out H2.out.at_ (by simp)).mono ?_
  rintro e w3 ⟨v3, rfl, r3, h3, b3⟩
  have hrd : RdB v3 d w3 := RdB.own (base := w2.heap.size) (by simpa using r3)
  have hcap : ∃ ao c, v3 = .slice ao d.length c ∧ d.length ≤ c := by
    rcases r3.2 with ⟨rfl, hn⟩ | ⟨g, cap, cur, rfl, _, _, h5, _⟩
    · exact ⟨none, 0, by rw [hn], by omega⟩
    · exact ⟨_, cap, rfl, h5⟩
  obtain ⟨ao, c, rfl, hc⟩ := hcap
  have HRD := Lib.hid hrd
  have hw3 : Below w.heap.size w w3 := HW2.out.trans (b3.mono HW2.out.size)
  have HR3 := Lib.hid (HR2.out.kept (b3.block _ HR2.out.lt))
  have HW3 := Lib.hid hw3
  have hsz3 : w.heap.size < w3.heap.size := HR3.out.lt
  obtain ⟨a4, s4, rd4⟩ := hrd.drop hc (k := 4) (by omega)
  obtain ⟨a8, s8, rd8⟩ := hrd.drop hc (k := 8) (by omega)
  replace s4 : ∀ W' : World, (Instr.slice 34 (.slice ao d.length c) (some (.int .i64 4)) none none).run Tryd.prog W' = .ok (.slice a4 (d.length - 4) (c - 4)) W' := s4
  replace s8 : ∀ W' : World, (Instr.slice 34 (.slice ao d.length c) (some (.int .i64 8)) none none).run Tryd.prog W' = .ok (.slice a8 (d.length - 8) (c - 8)) W' := s8
  have RD4 := Lib.hid (rd4 _ hrd)
  have cv8 := Lib.hid (fun W (hb : Below w3.heap.size w3 W) => run_rd_any (rd8 _ (hrd.below hb)))
  clear h3 b3 hw3 c2 r3 hrd rd4 rd8
  have nl : ¬ d.length < 8 := by omega
  have hr0 := HR3.out.cell (i := 0) rfl
  have hr1 := HR3.out.cell (i := 1) rfl
  have hr2 := HR3.out.cell (i := 2) rfl
  have f0 := HR3.out.frozen 0
  have f1 := HR3.out.frozen 1
  have f2 := HR3.out.frozen 2
  have HF1 := Lib.hid (show ∀ W, Below w3.heap.size w3 W → Calls Tryd.prog 107 #[.slice ao d.length c] W fun e w' => e = .returned (.int .i64 (dec4 d : Int)) ∧ Below w3.heap.size w3 w' from fun W hb => (four_any _ d W (HRD.out.below hb) (by omega)).mono fun e w' ⟨he, hd⟩ => ⟨he, hb.trans hd.below⟩)
  have HF2 := Lib.hid (show ∀ W, Below w3.heap.size w3 W → Calls Tryd.prog 107 #[.slice a4 (d.length - 4) (c - 4)] W fun e w' => e = .returned (.int .i64 (dec4 (d.drop 4) : Int)) ∧ Below w3.heap.size w3 w' from fun W hb => (four_any _ (d.drop 4) W (RD4.out.below hb) (by rw [List.length_drop]; omega)).mono fun e w' ⟨he, hd⟩ => ⟨he, hb.trans hd.below⟩)
  have dr0 : Below w3.heap.size w3 w3.drew := (Below.refl _ w3).drew
  have DR0 := Lib.hid dr0
  have cvd := cv8.out w3.drew dr0
  clear dr0 HRD RD4
  go_wp2
  go_region_with (first
    | (go_at_call 107; (with_reducible refine (HF1.out _ (by first | exact hbz.out | exact DR0.out)).mono ?_); rintro e w' ⟨rfl, hbz1⟩; have hbz := Lib.hid hbz1; have cvm := cv8.out w' hbz1; have hRz := HR3.out.kept (hbz1.block _ HR3.out.lt); have q0 := hRz.cell (i := 0) rfl; have q1 := hRz.cell (i := 1) rfl; have q2 := hRz.cell (i := 2) rfl; have g0 := hRz.frozen 0; have g1 := hRz.frozen 1; have g2 := hRz.frozen 2; have HRz := Lib.hid hRz; clear hbz1 hRz)
    | (go_at_call 107; (with_reducible refine (HF2.out _ (by first | exact hbz.out | exact DR0.out)).mono ?_); rintro e w' ⟨rfl, hbz1⟩; have hbz := Lib.hid hbz1; have cvm := cv8.out w' hbz1; have hRz := HR3.out.kept (hbz1.block _ HR3.out.lt); have q0 := hRz.cell (i := 0) rfl; have q1 := hRz.cell (i := 1) rfl; have q2 := hRz.cell (i := 2) rfl; have g0 := hRz.frozen 0; have g1 := hRz.frozen 1; have g2 := hRz.frozen 2; have HRz := Lib.hid hRz; clear hbz1 hRz))
  all_goals
    go_wp2
    have hr4 := ((HRz.out.set 0 (.int .i64 (dec4 d : Int))).set 1 (.int .i64 (dec4 (d.drop 4) : Int))).set 2 (.string ⟨(d.drop 8).toArray⟩)
    have hb4 := (((HW3.out.trans (hbz.out.mono HW3.out.size)).setCell (p := ⟨w.heap.size, 0, none⟩) (Nat.le_refl _) (.int .i64 (dec4 d : Int))).setCell (p := ⟨w.heap.size, 1, none⟩) (Nat.le_refl _) (.int .i64 (dec4 (d.drop 4) : Int))).setCell (p := ⟨w.heap.size, 2, none⟩) (Nat.le_refl _) (.string ⟨(d.drop 8).toArray⟩)
    clear q0 q1 q2 g0 g1 g2 cvm
    generalize World.setCell _ _ _ = W4 at hr4 hb4 ⊢
    have q0 := hr4.cell (i := 0) rfl
    have q1 := hr4.cell (i := 1) rfl
    have q2 := hr4.cell (i := 2) rfl
    exact bodyPost_ret (v := .tuple #[.agg #[.int .i64 (dec4 d : Int), .int .i64 (dec4 (d.drop 4) : Int), .string ⟨(d.drop 8).toArray⟩], .bool true]) (by simp [results, Tryd.results100, go_sem, q0, q1, q2]) rfl ⟨rfl, H.out.lx hb4, hb4⟩
end Go.Proofs.YtdbaocphglijbaaDoor

/- Package intern: a name is looked for. -/
set_option maxRecDepth 100000
namespace Go.Proofs.YtdbaocphglijbaaDoor
open Go.RowKit Go.Shelf
attribute [local go_sem] Oper.semAt_some
/-- A name that is there. -/
structure Ent where
  id : Nat
  uses : Nat
  name : List UInt8
def headId : List Ent → Nat
  | [] => 0
  | e :: _ => e.id
def lastId (P : List Ent) : Nat := match P.getLast? with
  | some e => e.id
  | none => 0
def linked (L : List Bl) : List Ent → Prop
  | [] => True
  | e :: r => (e.id, blkE e.uses (headId r) e.name) ∈ L ∧ linked L r
/-- How many names the first so many chains have. -/
def tot (C : Nat → List Ent) : Nat → Nat
  | 0 => 0
  | n + 1 => tot C n + (C n).length
def upd (C : Nat → List Ent) (c : Nat) (l : List Ent) : Nat → List Ent := fun k => if k = c then l else C k
theorem upd_same (C : Nat → List Ent) (c : Nat) (l : List Ent) : upd C c l c = l := by unfold upd; rw [if_pos rfl]
theorem upd_other {C : Nat → List Ent} {c k : Nat} {l : List Ent} (h : k ≠ c) : upd C c l k = C k := by unfold upd; rw [if_neg h]
theorem le_tot {C : Nat → List Ent} : ∀ {n c : Nat}, c < n → (C c).length ≤ tot C n
  | n + 1, c, h => by
    unfold tot
    by_cases e : c = n
    · subst e; omega
    · have := le_tot (C := C) (n := n) (c := c) (by omega); omega
theorem tot_upd_out {C : Nat → List Ent} {c : Nat} {l : List Ent} : ∀ {n : Nat}, n ≤ c → tot (upd C c l) n = tot C n
  | 0, _ => rfl
  | n + 1, h => by
    unfold tot
    rw [tot_upd_out (by omega), upd_other (by omega)]
theorem tot_upd {C : Nat → List Ent} {c : Nat} {l : List Ent} : ∀ {n : Nat}, c < n → tot (upd C c l) n + (C c).length = tot C n + l.length
  | n + 1, h => by
    unfold tot
    by_cases e : c = n
    · subst e
      rw [tot_upd_out (Nat.le_refl _), upd_same]
      omega
    · have := tot_upd (C := C) (l := l) (n := n) (c := c) (by omega)
      rw [upd_other (show n ≠ c by omega)]
      omega
structure TI (nn : Nat) (C : Nat → List Ent) (F : List Nat) (cnt : Nat) (L : List Bl) : Prop where
  pos : 1 ≤ nn
  lim : nn ≤ 1000000
  len : F.length = nn
  first : ∀ c, c < nn → F[c]? = some (headId (C c))
  link : ∀ c, c < nn → linked L (C c)
  hash : ∀ c, c < nn → ∀ e ∈ C c, hashN e.name % nn = c
  names : ∀ c, c < nn → ((C c).map Ent.name).Nodup
  count : tot C nn = cnt
  clim : cnt ≤ 1000000
  small : ∀ c, c < nn → ∀ e ∈ C c, e.uses < 2147483648 ∧ e.id < 2147483648 ∧ e.name.length ≤ 300
theorem TI.most {nn : Nat} {C : Nat → List Ent} {F : List Nat} {cnt : Nat} {L : List Bl} (I : TI nn C F cnt L) (c : Nat) (h : c < nn) : (C c).length ≤ cnt := by rw [← I.count]; exact le_tot h
theorem linked_app {L : List Bl} : ∀ {P : List Ent} {e : Ent} {R : List Ent}, linked L (P ++ e :: R) → (e.id, blkE e.uses (headId R) e.name) ∈ L
  | [], _, _, h => h.1
  | _ :: P, _, _, h => linked_app (P := P) h.2
theorem dec_blk (uses next : Nat) (name : List UInt8) (hu : uses < 4294967296) (hx : next < 4294967296) : dec4 (blkE uses next name) = uses ∧ dec4 ((blkE uses next name).drop 4) = next ∧ (blkE uses next name).drop 8 = name := by
  refine ⟨?_, ?_, rfl⟩
  · unfold blkE
    rw [List.append_assoc]
    exact dec4_b4 uses _ hu
  · show dec4 (b4 next ++ name) = next
    exact dec4_b4 next _ hx
theorem headId_lt {R : List Ent} (h : ∀ e ∈ R, e.id < 2147483648) : headId R < 2147483648 := by
  cases R with
  | nil => simp [headId]
  | cons e r => exact h e (by simp)
def encF (x : Nat) : Value := .int .i32 (x : Int)
/-- A table in memory: its box, the row of its chains. -/
structure TbE (x : Nat → Prop) (t : TB) (F : List Nat) (cnt : Nat) (w : World) : Prop where
  box : Blk w t.T (tbBox t F.length cnt) 109
  row : Blk w t.F (F.map encF) 21
  xT : x t.T
  xF : x t.F
theorem TbE.below {x : Nat → Prop} {t : TB} {F : List Nat} {cnt : Nat} {w w' : World} (h : TbE x t F cnt w) (hb : Below w.heap.size w w') : TbE x t F cnt w' :=
  ⟨h.box.kept (hb.block _ h.box.lt), h.row.kept (hb.block _ h.row.lt), h.xT, h.xF⟩
theorem TbE.lx {x : Nat → Prop} {t : TB} {F : List Nat} {cnt A B : Nat} {L : List Bl} {n0 : Nat} {w w' : World} (h : TbE x t F cnt w) (k : LX x A B L n0 w w') : TbE x t F cnt w' :=
  ⟨k.blk h.xT h.box, k.blk h.xF h.row, h.xT, h.xF⟩
def entV (c ahead id uses next : Nat) (name : List UInt8) : Value := .agg #[.int .i64 (c : Int), .int .i64 (ahead : Int), .int .i64 (id : Int), .int .i64 (uses : Int), .int .i64 (next : Int), .string ⟨name.toArray⟩]
def FindRet (x : Nat → Prop) (A B nn : Nat) (C : Nat → List Ent) (L : List Bl) (n0 : Nat) (l : List UInt8) (w : World) (e : Ending) (w' : World) : Prop :=
  LX x A B L n0 w w' ∧ Below w.heap.size w w' ∧ (((∀ e ∈ C (hashN l % nn), e.name ≠ l) ∧ e = .returned (.tuple #[entV 0 0 0 0 0 [], .bool false])) ∨
    (∃ P y R, C (hashN l % nn) = P ++ y :: R ∧ y.name = l ∧ e = .returned (.tuple #[entV (hashN l % nn) (lastId P) y.id y.uses (headId R) y.name, .bool true])))
structure FiSt (x : Nat → Prop) (t : TB) (B : Nat) (F : List Nat) (cnt : Nat) (L : List Bl) (n0 : Nat) (w wr : World) : Prop where
  hx : HX x t.A B L n0 wr
  tb : TbE x t F cnt wr
  box : Blk wr w.heap.size [.int .i64 0, .int .i64 0, .int .i64 0, .int .i64 0, .int .i64 0, .string ⟨#[]⟩] 113
  bel : Below w.heap.size w wr
theorem FiSt.after {x : Nat → Prop} {t : TB} {B : Nat} {F : List Nat} {cnt : Nat} {L : List Bl} {n0 : Nat} {w wr w' : World} (h : FiSt x t B F cnt L n0 w wr) (hb : Below wr.heap.size wr w') : FiSt x t B F cnt L n0 w w' :=
  ⟨h.hx.after hb, h.tb.below hb, h.box.kept (hb.block _ h.box.lt), h.bel.trans (hb.mono h.bel.size)⟩
theorem six_end {W : World} {R n : Nat} {l : List Value} {T : TypeId} (h : Blk W R l T) (hn : n ≤ R) (hl : l.length = 6) (v0 v1 v2 v3 v4 v5 : Value) : Blk ((((((W.setCell ⟨R, 0, none⟩ v0).setCell ⟨R, 1, none⟩ v1).setCell ⟨R, 2, none⟩ v2).setCell ⟨R, 3, none⟩ v3).setCell ⟨R, 4, none⟩ v4).setCell ⟨R, 5, none⟩ v5) R [v0, v1, v2, v3, v4, v5] T ∧
    Below n W ((((((W.setCell ⟨R, 0, none⟩ v0).setCell ⟨R, 1, none⟩ v1).setCell ⟨R, 2, none⟩ v2).setCell ⟨R, 3, none⟩ v3).setCell ⟨R, 4, none⟩ v4).setCell ⟨R, 5, none⟩ v5) := by
  refine ⟨?_, ((((((Below.refl n W).setCell (p := ⟨R, 0, none⟩) hn v0).setCell (p := ⟨R, 1, none⟩) hn v1).setCell (p := ⟨R, 2, none⟩) hn v2).setCell (p := ⟨R, 3, none⟩) hn v3).setCell (p := ⟨R, 4, none⟩) hn v4).setCell (p := ⟨R, 5, none⟩) hn v5⟩
  have := (((((h.set 0 v0).set 1 v1).set 2 v2).set 3 v3).set 4 v4).set 5 v5
  match l, hl with
  | [a, b, c, d, e, f], _ => exact this
theorem lastId_snoc (P : List Ent) (y : Ent) : lastId (P ++ [y]) = y.id := by unfold lastId; simp
set_option maxHeartbeats 16000000 in
theorem find_any (x : Nat → Prop) (t : TB) (B nn cnt : Nat) (C : Nat → List Ent) (F : List Nat) (L : List Bl) (n0 : Nat) (l : List UInt8) (w : World) (h : HX x t.A B L n0 w) (ht : TbE x t F cnt w) (I : TI nn C F cnt L) (hl : l.length ≤ 1000000) :
    Calls Tryd.prog 74 #[.pointer (some ⟨t.T, 0, none⟩), .string ⟨l.toArray⟩] w (FindRet x t.A B nn C L n0 l w) := by
  have h0 : FiSt x t B F cnt L n0 w (w.alloc (.cells #[.int .i64 0, .int .i64 0, .int .i64 0, .int .i64 0, .int .i64 0, .string ⟨#[]⟩] 113)) := by
    have hb : Below w.heap.size w (w.alloc (.cells #[.int .i64 0, .int .i64 0, .int .i64 0, .int .i64 0, .int .i64 0, .string ⟨#[]⟩] 113)) := (Below.refl _ w).alloc (Nat.le_refl _) _
    exact ⟨h.after hb, ht.below hb, Blk.new w _ _, hb⟩
  have H0 := Lib.hid h0
  have H := Lib.hid h
  have HI := Lib.hid I
  have hpos := I.pos
  have hlim := I.lim
  have hlen := I.len
  have hclim := I.clim
  clear h0 h ht I
  obtain ⟨c, hc⟩ : ∃ c, hashN l % nn = c := ⟨_, rfl⟩
  have hcn : c < nn := by rw [← hc]; exact Nat.mod_lt _ (by omega)
  have HC := Lib.hid hc
  have HCH := Lib.hid (fun W (k : Blk W t.T (tbBox t nn cnt) 109) => by have z := chainOf_any t nn cnt l W k hl hpos hlim; rw [hc] at z; exact z)
  clear hc
  subst hlen
  obtain ⟨A, T, FF⟩ := t
  simp only at HCH
  go_enter Tryd.func74, Tryd.ntmps74
  go_wp2_with fail
  refine (HCH.out _ H0.out.tb.box).mono ?_
  rintro e w1 ⟨rfl, hd1⟩
  have H1 := Lib.hid (H0.out.after hd1.below)
  clear hd1 H0
  have c1 := H1.out.tb.box.cell (i := 1) rfl
  have cf := H1.out.tb.row.cell (i := c) (v := .int .i32 ((headId (C c) : Nat) : Int)) (by rw [List.getElem?_map, HI.out.first c hcn]; rfl)
  have hh := Lib.hid (show headId (C c) < 2147483648 from headId_lt fun e he => (HI.out.small c hcn e he).2.1)
  have hw1 : IntKind.i64.wrap ((headId (C c) : Nat) : Int) = ((headId (C c) : Nat) : Int) := IntWalk.i64_in _ (by have := hh.out; omega)
  have hnn : c < F.length := hcn
  go_wp2
  go_quiet (fail)
  have H2 := Lib.hid (H1.out.after (below_dr w1 nq))
  clear H1 c1 cf hw1 hh
  generalize w1.drewN nq = w2 at H2 ⊢
  have c2 := H2.out.tb.box.cell (i := 2) rfl
  unfold encI at c2
  go_wp2
  clear c2
  go_loopw [7, 8, 29] (fun ah id i wr => ∃ (k a hd : Nat) (P R : List Ent), i = .int .i64 (k : Int) ∧ ah = .int .i64 (a : Int) ∧ id = .int .i64 (hd : Int) ∧ k ≤ cnt ∧ Hid (a = lastId P) ∧ Hid (hd = headId R) ∧ Hid (C c = P ++ R) ∧ Hid (P.length = k) ∧ Hid (∀ e ∈ P, e.name ≠ l) ∧ Hid (FiSt x ⟨A, T, FF⟩ B F cnt L n0 w wr)) (fun _ _ i _ => cnt + 1 - (intOf i).toNat)
  case atStart => exact ⟨0, 0, headId (C c), [], C c, rfl, rfl, rfl, Nat.zero_le _, Lib.hid rfl, Lib.hid rfl, Lib.hid rfl, Lib.hid rfl, Lib.hid (fun e he => by cases he), H2⟩
  case round =>
    obtain ⟨k, a, hd, P, R, rfl, rfl, rfl, hk, HA, HD, HS, HP, HN, HF⟩ := hrel
    clear H2
    by_cases hlt : k < cnt
    · cases R with
      | nil =>
        obtain rfl : hd = 0 := HD.out
        go_wp2_with fail
        refine (iblock_none x ⟨A, T, FF⟩ B F.length cnt L n0 0 _ HF.out.hx HF.out.tb.box (fun b hb e => by have := (HF.out.hx.each.2 b hb).1; omega)).mono ?_
        rintro e w3 ⟨rfl, _, b3⟩
        have H3 := Lib.hid (HF.out.after b3)
        clear b3 HF
        unfold agB
        have H4 := Lib.hid (H3.out.after ((Below.refl _ w3).alloc (Nat.le_refl _) (.cells #[.int .i64 0, .int .i64 0, .string ⟨#[]⟩] 111)))
        have r0 := H4.out.box.cell (i := 0) rfl
        have r1 := H4.out.box.cell (i := 1) rfl
        have r2 := H4.out.box.cell (i := 2) rfl
        have r3 := H4.out.box.cell (i := 3) rfl
        have r4 := H4.out.box.cell (i := 4) rfl
        have r5 := H4.out.box.cell (i := 5) rfl
        have fr := fun i => H4.out.box.frozen i
        go_wp2
        have k6 := six_end (n := w.heap.size) H4.out.box (Nat.le_refl _) rfl (.int .i64 0) (.int .i64 0) (.int .i64 0) (.int .i64 0) (.int .i64 0) (.string ⟨#[]⟩)
        clear r0 r1 r2 r3 r4 r5 fr
        generalize World.setCell _ _ _ = W6 at k6 ⊢
        obtain ⟨k6, hb6⟩ := k6
        have hb7 := H4.out.bel.trans hb6
        have q0 := k6.cell (i := 0) rfl
        have q1 := k6.cell (i := 1) rfl
        have q2 := k6.cell (i := 2) rfl
        have q3 := k6.cell (i := 3) rfl
        have q4 := k6.cell (i := 4) rfl
        have q5 := k6.cell (i := 5) rfl
        exact bodyPost_ret (v := .tuple #[.agg #[.int .i64 0, .int .i64 0, .int .i64 0, .int .i64 0, .int .i64 0, .string ⟨#[]⟩], .bool false]) (by simp [results, Tryd.results74, go_sem, q0, q1, q2, q3, q4, q5]) rfl ⟨H.out.lx hb7, hb7, .inl ⟨by rw [HC.out, HS.out]; rw [List.append_nil]; exact HN.out, rfl⟩⟩
      | cons y R' =>
        have hyC : y ∈ C c := by rw [HS.out]; simp
        obtain ⟨hyu, hyi, hyn⟩ := HI.out.small c hcn y hyC
        have hR' := headId_lt (R := R') (fun e he => (HI.out.small c hcn e (by rw [HS.out]; simp [he])).2.1)
        have hmem : (y.id, blkE y.uses (headId R') y.name) ∈ L := linked_app (P := P) (by rw [← HS.out]; exact HI.out.link c hcn)
        obtain ⟨d1, d2, d3⟩ := dec_blk y.uses (headId R') y.name (by omega) (by omega)
        have hB := iblock_some x ⟨A, T, FF⟩ B F.length cnt L (y.id, blkE y.uses (headId R') y.name) n0 (hd : Int) wr HF.out.hx HF.out.tb.box hmem (by rw [HD.out]; rfl) (by simp only [blkE_len]; omega)
        unfold BlockYes at hB
        simp only [d1, d2, d3] at hB
        have HB := Lib.hid hB
        obtain ⟨nx, hnx⟩ : ∃ nx, headId R' = nx := ⟨_, rfl⟩
        have HNX := Lib.hid hnx
        obtain ⟨yu, hyu2⟩ : ∃ yu, y.uses = yu := ⟨_, rfl⟩
        have HYU := Lib.hid hyu2
        rw [hnx, hyu2] at HB
        clear hB hmem d1 d2 d3 hyu hyi hR' hnx hyu2
        go_wp2_with fail
        refine HB.out.mono ?_
        rintro e w3 ⟨rfl, _, b3⟩
        have H3 := Lib.hid (HF.out.after b3)
        clear b3 HF HB
        unfold agB
        have y9 := Blk.new w3 [.int .i64 (yu : Int), .int .i64 (nx : Int), .string ⟨y.name.toArray⟩] 111
        have z0 := y9.cell (i := 0) rfl
        have z1 := y9.cell (i := 1) rfl
        have z2 := y9.cell (i := 2) rfl
        have H4 := Lib.hid (H3.out.after ((Below.refl _ w3).alloc (Nat.le_refl _) (.cells #[.int .i64 (yu : Int), .int .i64 (nx : Int), .string ⟨y.name.toArray⟩] 111)))
        by_cases hyl : y.name = l
        · have HYL := Lib.hid hyl
          subst hyl
          have r0 := H4.out.box.cell (i := 0) rfl
          have r1 := H4.out.box.cell (i := 1) rfl
          have r2 := H4.out.box.cell (i := 2) rfl
          have r3 := H4.out.box.cell (i := 3) rfl
          have r4 := H4.out.box.cell (i := 4) rfl
          have r5 := H4.out.box.cell (i := 5) rfl
          have fr := fun i => H4.out.box.frozen i
          go_wp2
          have k6 := six_end (n := w.heap.size) H4.out.box (Nat.le_refl _) rfl (.int .i64 (c : Int)) (.int .i64 (a : Int)) (.int .i64 (hd : Int)) (.int .i64 (yu : Int)) (.int .i64 (nx : Int)) (.string ⟨y.name.toArray⟩)
          clear r0 r1 r2 r3 r4 r5 fr z0 z1 z2 y9
          generalize World.setCell _ _ _ = W6 at k6 ⊢
          obtain ⟨k6, hb6⟩ := k6
          have hb7 := H4.out.bel.trans hb6
          have q0 := k6.cell (i := 0) rfl
          have q1 := k6.cell (i := 1) rfl
          have q2 := k6.cell (i := 2) rfl
          have q3 := k6.cell (i := 3) rfl
          have q4 := k6.cell (i := 4) rfl
          have q5 := k6.cell (i := 5) rfl
          exact bodyPost_ret (v := .tuple #[.agg #[.int .i64 (c : Int), .int .i64 (a : Int), .int .i64 (hd : Int), .int .i64 (yu : Int), .int .i64 (nx : Int), .string ⟨y.name.toArray⟩], .bool true]) (by simp [results, Tryd.results74, go_sem, q0, q1, q2, q3, q4, q5]) rfl ⟨H.out.lx hb7, hb7, .inr ⟨P, y, R', by rw [HC.out, HS.out], rfl, by rw [HC.out, ← HA.out, HYU.out, HNX.out, show y.id = hd from HD.out.symm]; rfl⟩⟩
        · have hne : (y.name == l) = false := by simpa using hyl
          have HYL := Lib.hid hyl
          go_wp2
          go_quiet (fail)
          go_wp2
          go_roundw
          case rel => exact ⟨k + 1, hd, nx, P ++ [y], R', by go_num, rfl, rfl, by omega, Lib.hid (by rw [lastId_snoc, HD.out]; rfl), Lib.hid HNX.out.symm, Lib.hid (by rw [HS.out]; simp), Lib.hid (by rw [List.length_append, HP.out]; rfl), Lib.hid (fun e he => by
            rcases List.mem_append.1 he with he | he
            · exact HN.out e he
            · rw [List.mem_singleton] at he; subst he; exact HYL.out), Lib.hid (H4.out.after (below_dr _ nq))⟩
          case measure => simp [intOf]; omega
    · have hRn : R = [] := by
        have h1 := HI.out.most c hcn
        rw [HS.out, List.length_append, HP.out] at h1
        cases R with
        | nil => rfl
        | cons y r => simp at h1; omega
      subst hRn
      have r0 := HF.out.box.cell (i := 0) rfl
      have r1 := HF.out.box.cell (i := 1) rfl
      have r2 := HF.out.box.cell (i := 2) rfl
      have r3 := HF.out.box.cell (i := 3) rfl
      have r4 := HF.out.box.cell (i := 4) rfl
      have r5 := HF.out.box.cell (i := 5) rfl
      have fr := fun i => HF.out.box.frozen i
      go_wp2
      have k6 := six_end (n := w.heap.size) HF.out.box (Nat.le_refl _) rfl (.int .i64 0) (.int .i64 0) (.int .i64 0) (.int .i64 0) (.int .i64 0) (.string ⟨#[]⟩)
      clear r0 r1 r2 r3 r4 r5 fr
      generalize World.setCell _ _ _ = W6 at k6 ⊢
      obtain ⟨k6, hb6⟩ := k6
      have hb7 := HF.out.bel.trans hb6
      have q0 := k6.cell (i := 0) rfl
      have q1 := k6.cell (i := 1) rfl
      have q2 := k6.cell (i := 2) rfl
      have q3 := k6.cell (i := 3) rfl
      have q4 := k6.cell (i := 4) rfl
      have q5 := k6.cell (i := 5) rfl
      exact bodyPost_ret (v := .tuple #[.agg #[.int .i64 0, .int .i64 0, .int .i64 0, .int .i64 0, .int .i64 0, .string ⟨#[]⟩], .bool false]) (by simp [results, Tryd.results74, go_sem, q0, q1, q2, q3, q4, q5]) rfl ⟨H.out.lx hb7, hb7, .inl ⟨by rw [HC.out, HS.out]; rw [List.append_nil]; exact HN.out, rfl⟩⟩
end Go.Proofs.YtdbaocphglijbaaDoor
