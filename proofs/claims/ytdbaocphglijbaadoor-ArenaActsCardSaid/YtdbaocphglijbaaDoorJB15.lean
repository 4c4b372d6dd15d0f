/- 3 texts put together: Awm, Vw, Vapi. -/
import Derived.Lib.SlBytesConst
import Derived.Test.YtdbaocphglijbaaDoorJB14
/- awake is true. -/
set_option maxRecDepth 100000
namespace Go.Proofs.YtdbaocphglijbaaDoor
open Go.RowKit Go.Shelf
theorem run_rd_str {v : Value} {l : List UInt8} {W : World} (h : RdB v l W) (hne : l ≠ []) : (convert 34 9 v).run Tryd.prog W = .ok (.string ⟨l.toArray⟩) W := by
  obtain ⟨ao, cap, rfl, hc⟩ := h.form
  cases l with
  | nil => exact absurd rfl hne
  | cons c l =>
    obtain ⟨b, off, rfl, _⟩ := hc 0 (by simp)
    exact run_convert_bytes_back (P := Tryd.prog) W 34 9 5 ⟨b, off, none⟩ cap (c :: l) Tryd.underlying34 Tryd.underlying5 Tryd.underlying9 (fun j hj => by
      obtain ⟨b', off', e, c1⟩ := hc j hj
      cases e
      have e2 : (⟨b, off, none⟩ : Addr).add j = ⟨b, off + j, none⟩ := by unfold Addr.add; split <;> simp_all
      rw [e2]
      exact c1)
theorem abc_new (W : World) : RdB (.slice (some ⟨W.heap.size, 0, none⟩) 3 3) [97, 98, 99] (W.alloc (.cells #[.int .u8 97, .int .u8 98, .int .u8 99] 5 (3, 4))) :=
  ⟨some ⟨W.heap.size, 0, none⟩, 3, rfl, fun j hj => ⟨W.heap.size, 0, rfl, by
    have h := World.alloc_heap_new W (.cells #[.int .u8 97, .int .u8 98, .int .u8 99] 5 (3, 4))
    simp only [List.length_cons, List.length_nil, Nat.zero_add, Nat.reduceAdd] at hj
    unfold World.cell?
    rw [h]
    match j, hj with
    | 0, _ => rfl
    | 1, _ => rfl
    | 2, _ => rfl⟩⟩
theorem conv_abc (W : World) : (convert 34 34 (.slice (some ⟨W.heap.size, 0, none⟩) 3 3)).run Tryd.prog (W.alloc (.cells #[.int .u8 97, .int .u8 98, .int .u8 99] 5)) = .ok (.slice (some ⟨W.heap.size, 0, none⟩) 3 3) (W.alloc (.cells #[.int .u8 97, .int .u8 98, .int .u8 99] 5 (3, 4))) :=
  Lib.run_convert_bytes_const W _ _ _ 3 3 Tryd.underlying34 Tryd.underlying5
set_option maxHeartbeats 8000000 in
theorem awake_any (w : World) (hT : TabOk w) : Calls Tryd.prog 14 #[] w fun e w' => e = .returned (.bool true) ∧ Below w.heap.size w w' := by
  have hg : 0 < w.heap.size := cell_lt (hT 0 (by decide))
  have hn : ∀ W : World, Calls Tryd.prog 15 #[.int .i64 1023] W fun e w' => e = .returned (.tuple #[.pointer none, .int .i64 1]) ∧ W = w' := fun W => new_none 1023 W (.inl (by decide))
  have hbig : ∀ (v : Value) (W : World), Calls Tryd.prog 17 #[v, .int .i64 4097] W fun e w' => e = .returned (.tuple #[.int .i64 0, .int .i64 3]) ∧ W = w' := fun v W => alloc_big v 4097 W (by decide)
  have hnil : ∀ (W : World), Calls Tryd.prog 17 #[.pointer none, .int .i64 1] W fun e w' => e = .returned (.tuple #[.int .i64 0, .int .i64 4]) ∧ W = w' := fun W => alloc_nil 1 _ W (by decide) rfl
  have hc8 : ∀ W : World, Calls Tryd.prog 30 #[.int .i64 8] W fun e w' => e = .returned (.int .i64 16) ∧ W = w' := fun W => by have h := cost_any 8 W; rw [show Ar.costI 8 = 16 by decide] at h; exact h
  have hc9 : ∀ W : World, Calls Tryd.prog 30 #[.int .i64 9] W fun e w' => e = .returned (.int .i64 32) ∧ W = w' := fun W => by have h := cost_any 9 W; rw [show Ar.costI 9 = 32 by decide] at h; exact h
  have hc1 : ∀ W : World, Calls Tryd.prog 30 #[.int .i64 (-1)] W fun e w' => e = .returned (.int .i64 0) ∧ W = w' := fun W => by have h := cost_any (-1) W; rw [show Ar.costI (-1) = 0 by decide] at h; exact h
  have hcv := conv_abc
  have HN := Lib.hid hn
  have HBIG := Lib.hid hbig
  have HNIL := Lib.hid hnil
  have HC8 := Lib.hid hc8
  have HC9 := Lib.hid hc9
  have HC1 := Lib.hid hc1
  have HT := Lib.hid hT
  have HG := Lib.hid hg
  clear hn hbig hnil hc8 hc9 hc1 hT hg
  go_enter Tryd.func14, Tryd.ntmps14
  go_wp2_with (first
    | (go_at_call 15; with_reducible refine (aw_new _).mono ?_; rintro e w1 ⟨A, rfl, hA1, hb1⟩; have HA1 := Lib.hid hA1; have HB1 := Lib.hid hb1; have HT1 := Lib.hid (HT.out.below HG.out hb1); clear hA1 hb1)
    | (go_at_call 15; with_reducible refine (HN.out _).mono ?_; rintro e w' ⟨rfl, rfl⟩)
    | (go_at_call 17; with_reducible refine (aw_alloc A _ _ HA1.out HT1.out HG.out).mono ?_; rintro e w2 ⟨rfl, ⟨b, hA2, hN2⟩, hb2⟩; have HA2 := Lib.hid hA2; have HN2 := Lib.hid hN2; have HB2 := Lib.hid (HB1.out.trans hb2); clear hA2 hN2 hb2)
    | (go_at_call 17; with_reducible refine (HBIG.out _ _).mono ?_; rintro e w' ⟨rfl, rfl⟩)
    | (go_at_call 23; with_reducible refine (aw_write A _ b _ _ (HA2.out.below ((Below.refl _ _).alloc (Nat.le_refl _) _)) HN2.out (by exact abc_new _)).mono ?_; rintro e w3 ⟨rfl, ⟨q, hA3, ho3, hs3, hd3⟩, hb3⟩; have HA3 := Lib.hid hA3; have HO3 := Lib.hid ho3; have HS3 := Lib.hid hs3; have HD3 := Lib.hid hd3; have HB3 := Lib.hid ((HB2.out.alloc HB2.out.size _).trans hb3); clear hA3 ho3 hs3 hd3 hb3)
    | (go_at_call 21; with_reducible refine (aw_read A _ q _ HA3.out HO3.out HS3.out HD3.out).mono ?_; rintro e w4 ⟨⟨v, rfl, hr4⟩, hb4⟩; have HA4 := Lib.hid (HA3.out.below hb4); have HB4 := Lib.hid (HB3.out.trans (hb4.mono HB3.out.size)); have HR4 := Lib.hid (RdB.own (l := [0, 97, 98, 99, 0]) hr4); clear hr4 hb4)
    | (go_at_call 32; with_reducible refine (aw_size A _ q _ HA4.out HO3.out HS3.out).mono ?_; rintro e w5 ⟨rfl, hb5⟩; have HA5 := Lib.hid (HA4.out.below hb5); have HB5 := Lib.hid (HB4.out.trans (hb5.mono HB4.out.size)); have hst : (convert 34 9 v).run Tryd.prog w5 = .ok (.string ⟨#[0, 97, 98, 99, 0]⟩) w5 := run_rd_str (HR4.out.below hb5) (by simp); clear hb5)
    | (go_at_call 17; with_reducible refine (HNIL.out _).mono ?_; rintro e w' ⟨rfl, rfl⟩)
    | (go_at_call 30; with_reducible refine (HC8.out _).mono ?_; rintro e w' ⟨rfl, rfl⟩)
    | (go_at_call 30; with_reducible refine (HC9.out _).mono ?_; rintro e w' ⟨rfl, rfl⟩)
    | (go_at_call 30; with_reducible refine (HC1.out _).mono ?_; rintro e w' ⟨rfl, rfl⟩)
    | (go_at_call 31; with_reducible refine (aw_used A _ q _ HA5.out HS3.out).mono ?_; rintro e w' ⟨rfl, rfl⟩)
    | (go_at_call 29; with_reducible refine (aw_left A _ q _ HA5.out HS3.out).mono ?_; rintro e w' ⟨rfl, rfl⟩)
    | (go_at_call 25; with_reducible refine (aw_compact A _ q _ HA5.out HS3.out).mono ?_; rintro e w6 ⟨rfl, hb6⟩; have HB6 := Lib.hid (HB5.out.trans hb6); clear hb6)
    | (go_at_call 31; with_reducible refine (used_nil _).mono ?_; rintro e w' ⟨rfl, rfl⟩))
  go_ret
  exact ⟨rfl, HB6.out⟩
end Go.Proofs.YtdbaocphglijbaaDoor

/- An arena as its blocks by handle: (handle, bytes), rising. -/
set_option maxRecDepth 100000
namespace Go.Proofs.YtdbaocphglijbaaDoor
open Go.RowKit Go.Shelf
/-- A block: its handle and its bytes. -/
abbrev Bl := Nat × List UInt8
def prB (q : Ar.Pc) : Bl := (q.owner, q.data.take q.size)
def sumC (L : List Bl) : Nat := (L.map fun x => Ar.cost x.2.length).sum
theorem sumC_nil : sumC [] = 0 := rfl
theorem sumC_cons (x : Bl) (L : List Bl) : sumC (x :: L) = Ar.cost x.2.length + sumC L := by simp [sumC]
theorem sumC_app (L M : List Bl) : sumC (L ++ M) = sumC L + sumC M := by simp [sumC]
structure Vw (L : List Bl) (bs : List Ar.Pc) : Prop where
  srt : L.Pairwise (fun x y => x.1 < y.1)
  pos : ∀ x ∈ L, 1 ≤ x.1
  perm : L.Perm (bs.map prB)
  ok : ∀ q ∈ bs, q.Ok ∧ q.free = false
theorem Vw.nil : Vw [] [] := ⟨List.Pairwise.nil, (fun _ h => by cases h), List.Perm.refl _, (fun _ h => by cases h)⟩
theorem blk_len {q : Ar.Pc} (h : q.Ok ∧ q.free = false) : (q.data.take q.size).length = q.size ∧ q.takes = Ar.cost q.size ∧ q.size ≤ 4096 := by
  obtain ⟨h1, h2⟩ := h.1.bl h.2
  obtain ⟨h3, _, _⟩ := data_ge h.1 h.2
  exact ⟨by rw [List.length_take]; omega, h2.symm, h1⟩
theorem Vw.sum {L : List Bl} {bs : List Ar.Pc} (h : Vw L bs) : Ar.sumT bs = sumC L := by
  have h1 : sumC L = sumC (bs.map prB) := by unfold sumC; exact (h.perm.map _).sum_nat
  rw [h1]
  unfold sumC Ar.sumT
  rw [List.map_map]
  congr 1
  refine List.map_congr_left fun q hq => ?_
  obtain ⟨k1, k2, _⟩ := blk_len (h.ok q hq)
  show q.takes = Ar.cost (q.data.take q.size).length
  rw [k1, k2]
theorem Vw.none {L : List Bl} {bs : List Ar.Pc} (h : Vw L bs) {z : Int} : (∀ q ∈ bs, (q.owner : Int) ≠ z) ↔ ∀ x ∈ L, (x.1 : Int) ≠ z := by
  constructor
  · intro k x hx
    obtain ⟨q, hq, rfl⟩ := List.mem_map.1 (h.perm.mem_iff.1 hx)
    exact k q hq
  · intro k q hq
    exact k (prB q) (h.perm.mem_iff.2 (List.mem_map.2 ⟨q, hq, rfl⟩))
theorem Vw.at_ {L : List Bl} {bs : List Ar.Pc} (h : Vw L bs) {q : Ar.Pc} (hq : q ∈ bs) : ∃ L1 L2, L = L1 ++ prB q :: L2 :=
  List.append_of_mem (h.perm.mem_iff.2 (List.mem_map.2 ⟨q, hq, rfl⟩))
theorem Vw.drop {L1 L2 : List Bl} {B1 B2 : List Ar.Pc} {q : Ar.Pc} (h : Vw (L1 ++ prB q :: L2) (B1 ++ q :: B2)) : Vw (L1 ++ L2) (B1 ++ B2) := by
  refine ⟨?_, fun x hx => h.pos x ?_, ?_, fun p hp => h.ok p ?_⟩
  · exact h.srt.sublist (by simp)
  · rcases List.mem_append.1 hx with h | h <;> simp [h]
  · have := h.perm
    rw [List.map_append, List.map_cons] at this
    rw [List.map_append]
    exact (List.perm_cons (prB q)).1 ((List.perm_middle.symm.trans this).trans List.perm_middle)
  · rcases List.mem_append.1 hp with h | h <;> simp [h]
theorem Vw.swap {L1 L2 : List Bl} {B1 B2 : List Ar.Pc} {q q' : Ar.Pc} (h : Vw (L1 ++ prB q :: L2) (B1 ++ q :: B2)) (ho : q'.owner = q.owner) (hk : q'.Ok ∧ q'.free = false) : Vw (L1 ++ prB q' :: L2) (B1 ++ q' :: B2) := by
  have hd := h.drop
  refine ⟨?_, fun x hx => ?_, ?_, fun p hp => ?_⟩
  · have := h.srt
    rw [List.pairwise_append, List.pairwise_cons] at this ⊢
    obtain ⟨a, ⟨b, c⟩, d⟩ := this
    refine ⟨a, ⟨fun y hy => ?_, c⟩, fun x hx y hy => ?_⟩
    · have := b y hy
      show q'.owner < y.1
      rw [ho]; exact this
    · rcases List.mem_cons.1 hy with rfl | hy
      · have := d x hx (prB q) (by simp)
        show x.1 < q'.owner
        rw [ho]; exact this
      · exact d x hx y (List.mem_cons_of_mem _ hy)
  · rcases List.mem_append.1 hx with hx | hx
    · exact h.pos x (by simp [hx])
    · rcases List.mem_cons.1 hx with rfl | hx
      · have := h.pos (prB q) (by simp)
        show 1 ≤ q'.owner
        rw [ho]; exact this
      · exact h.pos x (by simp [hx])
  · rw [List.map_append, List.map_cons]
    have := hd.perm
    rw [List.map_append] at this
    exact List.perm_middle.trans ((this.cons (prB q')).trans List.perm_middle.symm)
  · rcases List.mem_append.1 hp with hp | hp
    · exact h.ok p (by simp [hp])
    · rcases List.mem_cons.1 hp with rfl | hp
      · exact hk
      · exact h.ok p (by simp [hp])
/-- The first ones are one behind the other, and the next one is not next. -/
def Least (L1 L2 : List Bl) : Prop := (∀ i (h : i < L1.length), L1[i].1 = i + 1) ∧ ∀ x ∈ L2, L1.length + 1 < x.1
theorem least_cut : ∀ (L : List Bl) (s h : Nat), L.Pairwise (fun x y => x.1 < y.1) → (∀ x ∈ L, s + 1 ≤ x.1) → s + 1 ≤ h → (∀ x ∈ L, x.1 ≠ h) → (∀ j, s + 1 ≤ j → j < h → ∃ x ∈ L, x.1 = j) →
    ∃ L1 L2, L = L1 ++ L2 ∧ (∀ i (h : i < L1.length), L1[i].1 = s + i + 1) ∧ (∀ x ∈ L2, h < x.1) ∧ h = s + L1.length + 1
  | [], s, h, _, _, h1, _, h3 => by
    refine ⟨[], [], rfl, (fun i hi => by cases hi), (fun x hx => by cases hx), ?_⟩
    apply Classical.byContradiction
    intro hne
    obtain ⟨x, hx, _⟩ := h3 (s + 1) (by omega) (by simp at hne; omega)
    cases hx
  | y :: L, s, h, hp, hs, h1, h2, h3 => by
    rw [List.pairwise_cons] at hp
    obtain ⟨p1, p2⟩ := hp
    by_cases he : h = s + 1
    · refine ⟨[], y :: L, rfl, (fun i hi => by cases hi), (fun x hx => ?_), by simp [he]⟩
      have := hs x hx
      have := h2 x hx
      omega
    · have hy : y.1 = s + 1 := by
        obtain ⟨x, hx, e⟩ := h3 (s + 1) (by omega) (by omega)
        rcases List.mem_cons.1 hx with rfl | hx
        · exact e
        · have := p1 x hx
          have := hs y (by simp)
          omega
      obtain ⟨L1, L2, e1, e2, e3, e4⟩ := least_cut L (s + 1) h p2 (fun x hx => by have := p1 x hx; omega) (by omega) (fun x hx => h2 x (List.mem_cons_of_mem _ hx)) (fun j hj1 hj2 => by
        obtain ⟨x, hx, e⟩ := h3 j (by omega) hj2
        rcases List.mem_cons.1 hx with rfl | hx
        · omega
        · exact ⟨x, hx, e⟩)
      refine ⟨y :: L1, L2, by rw [e1]; rfl, fun i hi => ?_, e3, by rw [e4, List.length_cons]; omega⟩
      cases i with
      | zero => simpa using hy
      | succ i => rw [List.getElem_cons_succ, e2]; omega
theorem Vw.add {L : List Bl} {B1 B2 : List Ar.Pc} {b : Ar.Pc} {h : Nat} (hv : Vw L (B1 ++ B2)) (hN : IsNew b h b.size) (hb : b.Ok) (h1 : 1 ≤ h) (h2 : ∀ q ∈ B1 ++ B2, q.owner ≠ h) (h3 : ∀ j, 1 ≤ j → j < h → ∃ q ∈ B1 ++ B2, q.owner = j) :
    ∃ L1 L2, L = L1 ++ L2 ∧ Least L1 L2 ∧ h = L1.length + 1 ∧ Vw (L1 ++ (h, Ar.zeros b.size) :: L2) (B1 ++ b :: B2) := by
  have hm : ∀ x ∈ L, ∃ q ∈ B1 ++ B2, q.owner = x.1 := fun x hx => by
    obtain ⟨q, hq, rfl⟩ := List.mem_map.1 (hv.perm.mem_iff.1 hx)
    exact ⟨q, hq, rfl⟩
  obtain ⟨L1, L2, rfl, e2, e3, e4⟩ := least_cut L 0 h hv.srt (fun x hx => by have := hv.pos x hx; omega) (by omega) (fun x hx e => by
    obtain ⟨q, hq, e'⟩ := hm x hx
    exact h2 q hq (e'.trans e)) (fun j j1 j2 => by
    obtain ⟨q, hq, e⟩ := h3 j (by omega) j2
    exact ⟨prB q, hv.perm.mem_iff.2 (List.mem_map.2 ⟨q, hq, rfl⟩), e⟩)
  have hpr : prB b = (h, Ar.zeros b.size) := by unfold prB; rw [hN.own, hN.zero]
  refine ⟨L1, L2, rfl, ⟨(fun i hi => by rw [e2 i hi]; omega), (fun x hx => by have := e3 x hx; omega)⟩, by omega, ?_⟩
  rw [← hpr]
  refine ⟨?_, fun x hx => ?_, ?_, fun p hp => ?_⟩
  · have := hv.srt
    rw [List.pairwise_append] at this
    rw [List.pairwise_append, List.pairwise_cons]
    obtain ⟨a, c, d⟩ := this
    have ho : (prB b).1 = h := by rw [hpr]
    refine ⟨a, ⟨(fun y hy => by rw [ho]; exact e3 y hy), c⟩, fun x hx y hy => ?_⟩
    rcases List.mem_cons.1 hy with rfl | hy
    · obtain ⟨i, hi, rfl⟩ := List.mem_iff_getElem.1 hx
      rw [ho, e2 i hi]; omega
    · exact d x hx y hy
  · rcases List.mem_append.1 hx with hx | hx
    · exact hv.pos x (by simp [hx])
    · rcases List.mem_cons.1 hx with rfl | hx
      · rw [hpr]; exact h1
      · exact hv.pos x (by simp [hx])
  · rw [List.map_append, List.map_cons]
    have := hv.perm
    rw [List.map_append] at this
    exact List.perm_middle.trans ((this.cons (prB b)).trans List.perm_middle.symm)
  · rcases List.mem_append.1 hp with hp | hp
    · exact hv.ok p (by simp [hp])
    · rcases List.mem_cons.1 hp with rfl | hp
      · exact ⟨hb, hN.free⟩
      · exact hv.ok p (by simp [hp])
theorem put_take (d l : List UInt8) (at_ n : Nat) (h : at_ + l.length ≤ n) (hn : n ≤ d.length) : (Ar.put d at_ l).take n = Ar.put (d.take n) at_ l := by
  unfold Ar.put
  rw [List.take_take, Nat.min_eq_left (by omega), List.take_append, List.drop_take]
  have h1 : (d.take at_ ++ l).length = at_ + l.length := by simp; omega
  rw [h1, List.take_of_length_le (by rw [h1]; omega)]
theorem take_drop_take (d : List UInt8) (at_ k n : Nat) (h : at_ + k ≤ n) : (d.drop at_).take k = ((d.take n).drop at_).take k := by
  rw [List.drop_take, List.take_take, Nat.min_eq_left (by omega)]
/-- A handle stands in the rising list once. -/
theorem srt_uniq {L1 L2 M1 M2 : List Bl} {x y : Bl} (h : (L1 ++ x :: L2).Pairwise (fun x y => x.1 < y.1)) (e : L1 ++ x :: L2 = M1 ++ y :: M2) (hxy : x.1 = y.1) : L1 = M1 ∧ x = y ∧ L2 = M2 := by
  have hlen : L1.length = M1.length := by
    have h2 := h
    rw [List.pairwise_iff_getElem] at h2
    have ex : (L1 ++ x :: L2)[L1.length]? = some x := by simp
    have ey : (L1 ++ x :: L2)[M1.length]? = some y := by rw [e]; simp
    obtain ⟨ix, gx⟩ := List.getElem?_eq_some_iff.1 ex
    obtain ⟨iy, gy⟩ := List.getElem?_eq_some_iff.1 ey
    rcases Nat.lt_trichotomy L1.length M1.length with hlt | heq | hgt
    · have := h2 _ _ ix iy hlt
      rw [gx, gy] at this; omega
    · exact heq
    · have := h2 _ _ iy ix hgt
      rw [gx, gy] at this; omega
  obtain ⟨e1, e2⟩ := List.append_inj e hlen
  exact ⟨e1, (List.cons.inj e2).1, (List.cons.inj e2).2⟩
end Go.Proofs.YtdbaocphglijbaaDoor

/- The package's functions over an arena that a law made, by its blocks in the order of their handles; x are blocks of memory of the law's own beside it. -/
set_option maxRecDepth 100000
namespace Go.Proofs.YtdbaocphglijbaaDoor
open Go.RowKit Go.Shelf
def fx (x : Nat → Prop) (n0 : Nat) (w : World) : Nat → Prop := fun j => n0 ≤ j ∧ j < w.heap.size ∧ ¬ x j
structure HX (x : Nat → Prop) (A B : Nat) (L : List Bl) (n0 : Nat) (w : World) : Prop where
  ex : ∃ bs, Hold A B bs (fx x n0 w) w ∧ Vw L bs
  low : n0 ≤ w.heap.size
  xlt : ∀ k, x k → k < w.heap.size
  xlow : ∀ k, x k → n0 ≤ k
  tab : TabOk w
  tlt : 0 < n0
structure LX (x : Nat → Prop) (A B : Nat) (L : List Bl) (n0 : Nat) (w w' : World) : Prop where
  at_ : HX x A B L n0 w'
  below : Below n0 w w'
  own : ∀ k, x k → w'.heap[k]? = w.heap[k]?
theorem Hold.wide {A B : Nat} {bs : List Ar.Pc} {f g : Nat → Prop} {w : World} (h : Hold A B bs f w) (hf : ∀ k, f k → g k) (hg : ∀ k, g k → k < w.heap.size) : Hold A B bs g w := by
  obtain ⟨L, S, pcs, a, I, e, m⟩ := h
  exact ⟨L, S, pcs, a.wide hf hg, I, e, m⟩
theorem Hold.lt {A B : Nat} {bs : List Ar.Pc} {f : Nat → Prop} {w : World} (h : Hold A B bs f w) : ∀ k, f k → k < w.heap.size := by
  obtain ⟨L, S, pcs, a, I, e, m⟩ := h
  exact a.fb
theorem Hold.ok {A B : Nat} {bs : List Ar.Pc} {f : Nat → Prop} {w : World} (h : Hold A B bs f w) : ∀ q ∈ bs, q.Ok ∧ q.free = false := by
  obtain ⟨L, S, pcs, a, I, rfl, m⟩ := h
  intro q hq
  obtain ⟨q1, q2⟩ := Ar.mem_blocks.1 hq
  exact ⟨I.ok q q1, q2⟩
theorem Hold.sum_le {A B : Nat} {bs : List Ar.Pc} {f : Nat → Prop} {w : World} (h : Hold A B bs f w) : Ar.sumT bs ≤ B ∧ B ≤ 1048576 := by
  obtain ⟨L, S, pcs, a, I, rfl, rfl⟩ := h
  rw [← I.used]
  exact ⟨I.sane.used, I.lim⟩
theorem HX.left {x : Nat → Prop} {A B : Nat} {L L' : List Bl} {bs' : List Ar.Pc} {n0 : Nat} {w w' : World} (h : HX x A B L n0 w) (k : Left_ A B bs' (fx x n0 w) w w') (hv : Vw L' bs') : LX x A B L' n0 w w' := by
  have hs := k.trn.size
  have hb : Below n0 w w' := k.trn.below (fun j e => e.1) h.low
  refine ⟨⟨⟨bs', k.hold.wide (fun j e => ?_) (fun j e => e.2.1), hv⟩, Nat.le_trans h.low hs, fun j e => Nat.lt_of_lt_of_le (h.xlt j e) hs, h.xlow, h.tab.below h.tlt hb, h.tlt⟩, hb, fun j e => k.trn.block j (h.xlt j e) (fun e' => e'.2.2 e)⟩
  rcases e with e | e
  · exact ⟨e.1, Nat.lt_of_lt_of_le e.2.1 hs, e.2.2⟩
  · exact ⟨Nat.le_trans h.low e.1, e.2, fun e' => by have := h.xlt j e'; omega⟩
theorem HX.lx {x : Nat → Prop} {A B : Nat} {L : List Bl} {n0 : Nat} {w w' : World} (h : HX x A B L n0 w) (hb : Below w.heap.size w w') : LX x A B L n0 w w' := by
  obtain ⟨bs, hh, hv⟩ := h.ex
  exact h.left (Left_.below hh hb) hv
theorem HX.after {x : Nat → Prop} {A B : Nat} {L : List Bl} {n0 : Nat} {w w' : World} (h : HX x A B L n0 w) (hb : Below w.heap.size w w') : HX x A B L n0 w' := (h.lx hb).at_
theorem HX.sum_le {x : Nat → Prop} {A B : Nat} {L : List Bl} {n0 : Nat} {w : World} (h : HX x A B L n0 w) : sumC L ≤ B ∧ B ≤ 1048576 := by
  obtain ⟨bs, hh, hv⟩ := h.ex
  rw [← hv.sum]
  exact hh.sum_le
theorem HX.each {x : Nat → Prop} {A B : Nat} {L : List Bl} {n0 : Nat} {w : World} (h : HX x A B L n0 w) : L.Pairwise (fun x y => x.1 < y.1) ∧ ∀ b ∈ L, 1 ≤ b.1 ∧ b.2.length ≤ 4096 := by
  obtain ⟨bs, hh, hv⟩ := h.ex
  refine ⟨hv.srt, fun b hb => ⟨hv.pos b hb, ?_⟩⟩
  obtain ⟨q, hq, rfl⟩ := List.mem_map.1 (hv.perm.mem_iff.1 hb)
  obtain ⟨k1, _, k3⟩ := blk_len (hv.ok q hq)
  show (q.data.take q.size).length ≤ 4096
  omega
/-- A block of the law's own, just made. -/
theorem HX.mine {x : Nat → Prop} {A B : Nat} {L : List Bl} {n0 : Nat} {w : World} (h : HX x A B L n0 w) (o : Obj) : HX (fun k => x k ∨ k = w.heap.size) A B L n0 (w.alloc o) := by
  obtain ⟨bs, hh, hv⟩ := h.ex
  have hb : Below w.heap.size w (w.alloc o) := (Below.refl _ w).alloc (Nat.le_refl _) o
  have hs : (w.alloc o).heap.size = w.heap.size + 1 := World.size_alloc _ _
  have hl := Left_.below hh hb
  refine ⟨⟨bs, ?_, hv⟩, by rw [hs]; exact Nat.le_succ_of_le h.low, fun k e => by rw [hs]; exact e.elim (fun e => Nat.lt_succ_of_lt (h.xlt k e)) (fun e => by omega), fun k e => e.elim (h.xlow k) (fun e => by rw [e]; exact h.low), h.tab.below h.tlt (hb.mono h.low), h.tlt⟩
  obtain ⟨L', S, pcs, a, I, e, m⟩ := hh
  have a2 := a.below hb
  exact ⟨L', S, pcs, a2.wide (fun j e => ⟨e.1, by rw [hs]; exact Nat.lt_succ_of_lt e.2.1, fun e' => e'.elim e.2.2 (fun e' => by have := e.2.1; omega)⟩) (fun j e => e.2.1), I, e, m⟩
theorem blk_notIn {x : Nat → Prop} {A : Nat} {L : Loc} {S : Ar.St} {n0 : Nat} {w w' : World} (a : ArE A L S (fx x n0 w) w) (hs : w'.heap.size = w.heap.size) (hk : ∀ k, ¬ x k → w'.heap[k]? = w.heap[k]?) : ArE A L S (fx x n0 w') w' :=
  ⟨a.box.kept (hk _ a.fA.2.2), a.mem.kept (hk _ a.fM.2.2), a.pl.kept (hk _ a.fP.2.2), a.us.kept (hk _ a.fU.2.2), a.nd.kept (hk _ a.fN.2.2), a.cap, a.cm, ⟨a.fA.1, by rw [hs]; exact a.fA.2.1, a.fA.2.2⟩, ⟨a.fM.1, by rw [hs]; exact a.fM.2.1, a.fM.2.2⟩, ⟨a.fP.1, by rw [hs]; exact a.fP.2.1, a.fP.2.2⟩, ⟨a.fU.1, by rw [hs]; exact a.fU.2.1, a.fU.2.2⟩, ⟨a.fN.1, by rw [hs]; exact a.fN.2.1, a.fN.2.2⟩, fun k e => e.2.1⟩
/-- A store into a block of the law's own. -/
theorem HX.put {x : Nat → Prop} {A B : Nat} {L : List Bl} {n0 : Nat} {w : World} (h : HX x A B L n0 w) {k : Nat} (hk : x k) (i : Nat) (v : Value) : HX x A B L n0 (w.setCell ⟨k, i, none⟩ v) := by
  obtain ⟨bs, ⟨L', S, pcs, a, I, e, m⟩, hv⟩ := h.ex
  have hs : (w.setCell ⟨k, i, none⟩ v).heap.size = w.heap.size := by simp [World.setCell]
  have hb : Below n0 w (w.setCell ⟨k, i, none⟩ v) := (Below.refl n0 w).setCell (h.xlow k hk) v
  exact ⟨⟨bs, ⟨L', S, pcs, blk_notIn a hs (fun j hj => Below.heap_setCell w ⟨k, i, none⟩ v j (fun e => hj (e ▸ hk))), I, e, m⟩, hv⟩, by rw [hs]; exact h.low, fun j e => by rw [hs]; exact h.xlt j e, h.xlow, h.tab.below h.tlt hb, h.tlt⟩
/-- Fewer blocks of the law's own. -/
theorem HX.less {x y : Nat → Prop} {A B : Nat} {L : List Bl} {n0 : Nat} {w : World} (h : HX x A B L n0 w) (hy : ∀ k, y k → x k) : HX y A B L n0 w := by
  obtain ⟨bs, hh, hv⟩ := h.ex
  exact ⟨⟨bs, hh.wide (fun j e => ⟨e.1, e.2.1, fun e' => e.2.2 (hy j e')⟩) (fun j e => e.2.1), hv⟩, h.low, fun k e => h.xlt k (hy k e), fun k e => h.xlow k (hy k e), h.tab, h.tlt⟩
theorem LX.to {x : Nat → Prop} {A B : Nat} {L L' : List Bl} {n0 : Nat} {w w1 w2 : World} (h : LX x A B L n0 w w1) (k : LX x A B L' n0 w1 w2) : LX x A B L' n0 w w2 :=
  ⟨k.at_, h.below.trans k.below, fun j e => (k.own j e).trans (h.own j e)⟩
theorem LX.blk {x : Nat → Prop} {A B : Nat} {L : List Bl} {n0 : Nat} {w w' : World} (h : LX x A B L n0 w w') {I : Nat} {l : List Value} {t : TypeId} (hI : x I) (hb : Blk w I l t) : Blk w' I l t := hb.kept (h.own I hI)
def AllocX (x : Nat → Prop) (A B : Nat) (L : List Bl) (n0 : Nat) (n : Int) (w : World) (e : Ending) (w' : World) : Prop :=
  (Ar.costI n = 0 ∧ e = .returned (.tuple #[.int .i64 0, .int .i64 3]) ∧ w = w') ∨ (Ar.costI n ≠ 0 ∧ B - sumC L < Ar.costI n ∧ e = .returned (.tuple #[.int .i64 0, .int .i64 4]) ∧ w = w') ∨
  (Ar.costI n ≠ 0 ∧ Ar.costI n ≤ B - sumC L ∧ ∃ (k : Nat) (L1 L2 : List Bl), n = (k : Int) ∧ k ≤ 4096 ∧ L = L1 ++ L2 ∧ Least L1 L2 ∧ e = .returned (.tuple #[.int .i64 ((L1.length + 1 : Nat) : Int), .int .i64 0]) ∧ LX x A B (L1 ++ (L1.length + 1, Ar.zeros k) :: L2) n0 w w')
theorem costI_pos {n : Int} (h : Ar.costI n ≠ 0) : ∃ k : Nat, n = (k : Int) ∧ k ≤ 4096 ∧ Ar.costI n = Ar.cost k := by
  unfold Ar.costI at h ⊢
  by_cases h1 : 0 ≤ n ∧ n ≤ 4096
  · exact ⟨n.toNat, by omega, by omega, by rw [if_pos h1]⟩
  · rw [if_neg h1] at h; exact absurd rfl h
theorem alloc_x (x : Nat → Prop) (A B : Nat) (L : List Bl) (n0 : Nat) (n : Int) (w : World) (h : HX x A B L n0 w) :
    Calls Tryd.prog 17 #[.pointer (some ⟨A, 0, none⟩), .int .i64 n] w (AllocX x A B L n0 n w) := by
  obtain ⟨bs, hh, hv⟩ := h.ex
  refine (alloc_api A B bs _ n w hh h.tab (fun e => by have := e.1; have := h.tlt; omega)).mono fun e w' hk => ?_
  rcases hk with hk | hk | ⟨k1, k2, i, B1, B2, b, he, rfl, hL, hz, hN, g1, g2, g3⟩
  · exact .inl hk
  · exact .inr (.inl (by rw [← hv.sum]; exact hk))
  · obtain ⟨k, rfl, hk4, _⟩ := costI_pos k1
    have hz' : b.size = k := by omega
    obtain ⟨L1, L2, rfl, hl, rfl, hv'⟩ := hv.add hN (hL.hold.ok b (by simp)).1 g1 g2 g3
    rw [hz'] at hv'
    exact .inr (.inr ⟨k1, by rw [← hv.sum]; exact k2, k, L1, L2, rfl, hk4, rfl, hl, he, h.left hL hv'⟩)
def FreeX (x : Nat → Prop) (A B : Nat) (L : List Bl) (n0 : Nat) (z : Int) (w : World) (e : Ending) (w' : World) : Prop :=
  ((∀ b ∈ L, (b.1 : Int) ≠ z) ∧ e = .returned (.int .i64 5) ∧ LX x A B L n0 w w') ∨ (∃ (L1 : List Bl) (b : Bl) (L2 : List Bl), L = L1 ++ b :: L2 ∧ (b.1 : Int) = z ∧ e = .returned (.int .i64 0) ∧ LX x A B (L1 ++ L2) n0 w w')
theorem free_x (x : Nat → Prop) (A B : Nat) (L : List Bl) (n0 : Nat) (z : Int) (w : World) (h : HX x A B L n0 w) :
    Calls Tryd.prog 19 #[.pointer (some ⟨A, 0, none⟩), .int .i64 z] w (FreeX x A B L n0 z w) := by
  obtain ⟨bs, hh, hv⟩ := h.ex
  refine (free_api A B bs _ z w hh).mono fun e w' hk => ?_
  rcases hk with ⟨h1, he, hb⟩ | ⟨B1, q, B2, rfl, ho, he, hL⟩
  · exact .inl ⟨hv.none.1 h1, he, h.lx hb⟩
  · obtain ⟨L1, L2, rfl⟩ := hv.at_ (q := q) (by simp)
    exact .inr ⟨L1, prB q, L2, rfl, ho, he, h.left hL hv.drop⟩
def SizeX (x : Nat → Prop) (A B : Nat) (L : List Bl) (n0 : Nat) (z : Int) (w : World) (e : Ending) (w' : World) : Prop :=
  LX x A B L n0 w w' ∧ Below w.heap.size w w' ∧ (((∀ b ∈ L, (b.1 : Int) ≠ z) ∧ e = .returned (.tuple #[.int .i64 0, .bool false])) ∨ ∃ b ∈ L, (b.1 : Int) = z ∧ e = .returned (.tuple #[.int .i64 (b.2.length : Int), .bool true]))
theorem size_x (x : Nat → Prop) (A B : Nat) (L : List Bl) (n0 : Nat) (z : Int) (w : World) (h : HX x A B L n0 w) :
    Calls Tryd.prog 32 #[.pointer (some ⟨A, 0, none⟩), .int .i64 z] w (SizeX x A B L n0 z w) := by
  obtain ⟨bs, hh, hv⟩ := h.ex
  refine (size_api A B bs _ z w hh).mono fun e w' ⟨hb, hk⟩ => ⟨h.lx hb, hb, ?_⟩
  rcases hk with ⟨h1, he⟩ | ⟨q, hq, ho, he⟩
  · exact .inl ⟨hv.none.1 h1, he⟩
  · exact .inr ⟨prB q, hv.perm.mem_iff.2 (List.mem_map.2 ⟨q, hq, rfl⟩), ho, by rw [he]; show _ = Ending.returned (.tuple #[.int .i64 ((q.data.take q.size).length : Int), _]); rw [(blk_len (hv.ok q hq)).1]⟩
theorem used_x (x : Nat → Prop) (A B : Nat) (L : List Bl) (n0 : Nat) (w : World) (h : HX x A B L n0 w) : Calls Tryd.prog 31 #[.pointer (some ⟨A, 0, none⟩)] w fun e w' => e = .returned (.int .i64 (sumC L : Int)) ∧ w = w' := by
  obtain ⟨bs, hh, hv⟩ := h.ex
  rw [← hv.sum]
  exact used_api A B bs _ w hh
theorem left_x (x : Nat → Prop) (A B : Nat) (L : List Bl) (n0 : Nat) (w : World) (h : HX x A B L n0 w) : Calls Tryd.prog 29 #[.pointer (some ⟨A, 0, none⟩)] w fun e w' => e = .returned (.int .i64 ((B - sumC L : Nat) : Int)) ∧ w = w' := by
  obtain ⟨bs, hh, hv⟩ := h.ex
  rw [← hv.sum]
  exact left_api A B bs _ w hh
theorem compact_x (x : Nat → Prop) (A B : Nat) (L : List Bl) (n0 : Nat) (w : World) (h : HX x A B L n0 w) : Calls Tryd.prog 25 #[.pointer (some ⟨A, 0, none⟩)] w fun e w' => e = .returned (.int .i64 ((B - sumC L : Nat) : Int)) ∧ LX x A B L n0 w w' := by
  obtain ⟨bs, hh, hv⟩ := h.ex
  rw [← hv.sum]
  exact (compact_api A B bs _ w hh).mono fun e w' ⟨he, hL⟩ => ⟨he, h.left hL hv⟩
def ReadX (x : Nat → Prop) (A B : Nat) (L : List Bl) (n0 : Nat) (z at_ n : Int) (w : World) (e : Ending) (w' : World) : Prop :=
  LX x A B L n0 w w' ∧ Below w.heap.size w w' ∧ (((∀ b ∈ L, (b.1 : Int) ≠ z) ∧ e = .returned (.tuple #[.slice none 0 0, .int .i64 5])) ∨ ∃ b ∈ L, (b.1 : Int) = z ∧
    ((¬ Within b.2.length at_ n ∧ e = .returned (.tuple #[.slice none 0 0, .int .i64 1])) ∨ (Within b.2.length at_ n ∧ ∃ v l, l = (b.2.drop at_.toNat).take n.toNat ∧ e = .returned (.tuple #[v, .int .i64 0]) ∧ w'.ownsRow w.heap.size 5 1 v l.length (l.map encB))))
theorem read_x (x : Nat → Prop) (A B : Nat) (L : List Bl) (n0 : Nat) (z at_ n : Int) (w : World) (h : HX x A B L n0 w)
    (hI1 : -9223372036854775808 ≤ at_) (hI2 : at_ ≤ 9223372036854775807) (hI3 : -9223372036854775808 ≤ n) (hI4 : n ≤ 9223372036854775807) :
    Calls Tryd.prog 21 #[.pointer (some ⟨A, 0, none⟩), .int .i64 z, .int .i64 at_, .int .i64 n] w (ReadX x A B L n0 z at_ n w) := by
  obtain ⟨bs, hh, hv⟩ := h.ex
  refine (read_api A B bs _ z at_ n w hh hI1 hI2 hI3 hI4).mono fun e w' ⟨hb, hk⟩ => ⟨h.lx hb, hb, ?_⟩
  rcases hk with ⟨h1, he⟩ | ⟨q, hq, ho, hk⟩
  · exact .inl ⟨hv.none.1 h1, he⟩
  · obtain ⟨e1, _, _⟩ := blk_len (hv.ok q hq)
    refine .inr ⟨prB q, hv.perm.mem_iff.2 (List.mem_map.2 ⟨q, hq, rfl⟩), ho, ?_⟩
    show (¬ Within (q.data.take q.size).length at_ n ∧ _) ∨ (Within (q.data.take q.size).length at_ n ∧ _)
    rw [e1]
    rcases hk with hk | ⟨k1, v, l, hl, he, hr⟩
    · exact .inl hk
    · refine .inr ⟨k1, v, l, ?_, he, hr⟩
      obtain ⟨w1, w2, w3, w4⟩ := k1
      rw [hl]
      exact take_drop_take _ _ _ _ (by omega)
def WriteX (x : Nat → Prop) (A B : Nat) (L : List Bl) (n0 : Nat) (z at_ : Int) (l : List UInt8) (w : World) (e : Ending) (w' : World) : Prop :=
  ((∀ b ∈ L, (b.1 : Int) ≠ z) ∧ e = .returned (.int .i64 5) ∧ LX x A B L n0 w w') ∨ ∃ (L1 : List Bl) (b : Bl) (L2 : List Bl), L = L1 ++ b :: L2 ∧ (b.1 : Int) = z ∧
    ((¬ Within b.2.length at_ l.length ∧ e = .returned (.int .i64 1) ∧ LX x A B L n0 w w') ∨ (Within b.2.length at_ l.length ∧ e = .returned (.int .i64 0) ∧ LX x A B (L1 ++ (b.1, Ar.put b.2 at_.toNat l) :: L2) n0 w w'))
theorem write_x (x : Nat → Prop) (A B : Nat) (L : List Bl) (n0 : Nat) (z at_ : Int) (v : Value) (l : List UInt8) (w : World) (h : HX x A B L n0 w) (hb : RdB v l w) (hl : l.length ≤ 1048576)
    (hI1 : -9223372036854775808 ≤ at_) (hI2 : at_ ≤ 9223372036854775807) :
    Calls Tryd.prog 23 #[.pointer (some ⟨A, 0, none⟩), .int .i64 z, .int .i64 at_, v] w (WriteX x A B L n0 z at_ l w) := by
  obtain ⟨bs, hh, hv⟩ := h.ex
  refine (write_api A B bs _ z at_ v l w hh hb hl hI1 hI2).mono fun e w' hk => ?_
  rcases hk with ⟨h1, he, hbw⟩ | ⟨B1, q, B2, rfl, ho, hk⟩
  · exact .inl ⟨hv.none.1 h1, he, h.lx hbw⟩
  · obtain ⟨L1, L2, rfl⟩ := hv.at_ (q := q) (by simp)
    obtain ⟨e1, _, _⟩ := blk_len (hv.ok q (by simp))
    refine .inr ⟨L1, prB q, L2, rfl, ho, ?_⟩
    show (¬ Within (q.data.take q.size).length at_ l.length ∧ _) ∨ (Within (q.data.take q.size).length at_ l.length ∧ _)
    rw [e1]
    rcases hk with ⟨k1, he, hbw⟩ | ⟨k1, he, hL⟩
    · exact .inl ⟨k1, he, h.lx hbw⟩
    · obtain ⟨w1, w2, w3, w4⟩ := id k1
      have hq := hv.ok q (by simp)
      have hd := data_ge hq.1 hq.2
      have hv' := hv.swap (q' := { q with data := Ar.put q.data at_.toNat l }) rfl (hL.hold.ok _ (by simp))
      have hp : prB { q with data := Ar.put q.data at_.toNat l } = ((prB q).1, Ar.put (prB q).2 at_.toNat l) := by
        unfold prB
        simp only
        rw [put_take _ _ _ _ (by omega) hd.1]
      rw [hp] at hv'
      exact .inr ⟨k1, he, h.left hL hv'⟩
theorem new_x (B : Nat) (w : World) (h1 : 1024 ≤ B) (h2 : B ≤ 1048576) (hT : TabOk w) :
    Calls Tryd.prog 15 #[.int .i64 (B : Int)] w fun e w' => ∃ A, e = .returned (.tuple #[.pointer (some ⟨A, 0, none⟩), .int .i64 0]) ∧ HX (fun _ => False) A B [] w.heap.size w' ∧ Below w.heap.size w w' := by
  have hg : 0 < w.heap.size := cell_lt (hT 0 (by decide))
  exact (new_api B w h1 h2).mono fun e w' ⟨A, he, hH, hb⟩ => ⟨A, he, ⟨⟨[], hH.wide (fun j e => ⟨e.1, e.2, id⟩) (fun j e => e.2.1), Vw.nil⟩, hb.size, fun _ e => e.elim, fun _ e => e.elim, hT.below hg hb, hg⟩, hb⟩
end Go.Proofs.YtdbaocphglijbaaDoor
