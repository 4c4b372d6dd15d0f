/- put, Two, Four of the document's own Writer. -/
import Derived.Test.YtipabiiffaipdaaRw
import Derived.Test.YtipabiiffaipdaaAct
namespace Go.Proofs.Ytipabiiffaipdaa
open Go.RowKit Go.Shelf Go.Maps
attribute [local go_sem] Oper.semAt_some

def RAct (R : Nat) (M' : MS) (f : Nat → Prop) (w : World) (e : Ending) (w' : World) : Prop := e = .returned (.tuple #[]) ∧ Turn f w w' ∧ RwE R M' (grow f w w') w'
theorem RAct.then {R : Nat} {M2 : MS} {f : Nat → Prop} {w w1 : World} {e : Ending} {w2 : World} (h2 : RAct R M2 (grow f w w1) w1 e w2) (h1 : Turn f w w1) : RAct R M2 f w e w2 :=
  ⟨h2.1, h1.trans h2.2.1, h2.2.2.widen fun k _ => grow_trans h1.size h2.2.1.size k⟩
theorem ownE_len {α : Type} {enc : α → Value} {e base : Nat} {v : Value} {l : List α} {W : World} (h : OwnE enc e base v l W) : ∃ ao cap, v = .slice ao l.length cap := by
  rcases h.2 with ⟨rfl, hn⟩ | ⟨g, cap, cur, rfl, _⟩
  · exact ⟨none, 0, by rw [hn]⟩
  · exact ⟨_, _, rfl⟩
def lenIn (w : World) (a : Addr) : Nat := match w.cell? a with
  | some (.slice _ n _) => n
  | _ => 0

theorem readB_otherR {R : Nat} {M : MS} {vb vp v : Value} {l : List UInt8} {W W' : World} (h : ReadB v l W) (hB : W.heap[R]? = some (.cells (mCells M vb vp) 37 (0, 0))) (hvb : ∀ q, vb ≠ .int .u8 q) (hvp : ∀ q, vp ≠ .int .u8 q)
    (hs : ∀ k, k < W.heap.size → k ≠ R → W'.heap[k]? = W.heap[k]?) : ReadB v l W' := by
  obtain ⟨ao, cap, rfl, hc⟩ := h.form
  refine ⟨ao, cap, rfl, fun j hj => ?_⟩
  obtain ⟨b, off, e, c⟩ := hc j hj
  refine ⟨b, off, e, ?_⟩
  have hne : b ≠ R := by
    rintro rfl
    have c' : (mCells M vb vp)[off + j]? = some (encB l[j]) := by
      have : W.cell? ⟨b, off + j, none⟩ = (mCells M vb vp)[off + j]? := by
        show (match W.heap[b]? with | some (.cells c _ _) => c[off + j]? | _ => none) = _
        rw [hB]
      rw [← this]; exact c
    unfold mCells encB at c'
    match hq : off + j with
    | 0 => rw [hq] at c'; simp at c'
    | 1 => rw [hq] at c'; simp at c'; exact hvb _ c'
    | 2 => rw [hq] at c'; simp at c'; exact hvp _ c'
    | 3 => rw [hq] at c'; simp at c'
    | n + 4 => rw [hq] at c'; simp at c'
  rw [World.cell?_of_block (a := ⟨b, off + j, none⟩) (hs b (cell_lt c) hne)]
  exact c

set_option maxRecDepth 100000 in
set_option maxHeartbeats 2000000 in
theorem rput_any (R : Nat) (M : MS) (f : Nat → Prop) (l : List UInt8) (bv : Value) (w : World) (h : RwE R M f w) (hr : ReadB bv l w) (he : M.pl.length = M.b.length) (hl : M.b.length + l.length ≤ 900000) :
    Calls Try.prog 31 #[.pointer (some ⟨R, 0, none⟩), bv] w (RAct R (M.put l) f w) := by
  obtain ⟨vb, vp, h⟩ := h
  have hr' := hr
  obtain ⟨ao, cap, rfl, _⟩ := hr.form
  have c1 := blk_cell h.heap 1 (v := vb) rfl
  have HH := Lib.hid h
  have HR := Lib.hid hr'
  have HE := Lib.hid he
  clear h hr hr' he
  go_enter Try.func31, Try.ntmps31
  go_wp2_with (at_builtin; refine wpList_apdB _ rfl _ _ 22 rfl 0 5 Try.underlying22 infoByte vb M.b rfl HH.out.ob _ l rfl HR.out (by omega) (Nat.zero_le _) ?_; intro v1 w1 ho1 ha1 hn1 hl1; obtain ⟨ao1, n1, cp1, rfl⟩ := own_shape ho1; have HA := Lib.hid (HH.out.appB ho1 ha1 hn1 hl1); have c2 := blk_cell HA.out.1 1 (v := vb) rfl; have f2 := blk_frozen HA.out.1 1; clear ho1 ha1 hn1 hl1)
  have HT1 := Lib.hid HA.out.2.1
  have HW1 := Lib.hid HA.out.2.2
  clear HA c1 c2 f2
  go_loopw [13] (fun _ wr => ∃ (k : Nat) (vb vp : Value), k ≤ l.length ∧ Hid (Rw R { M with b := M.b ++ l, pl := M.pl ++ List.replicate k [] } (grow f w wr) vb vp wr) ∧ Hid (Turn f w wr)) (fun _ wr => M.b.length + l.length - lenIn wr ⟨R, 2, none⟩)
  case atStart => exact ⟨0, _, _, Nat.zero_le _, by rw [List.replicate_zero, List.append_nil]; exact HW1, HT1⟩
  case round =>
    obtain ⟨k, vb2, vp2, hk, hR, hT⟩ := hrel
    obtain ⟨aob, cpb, rfl⟩ := ownE_len hR.out.ob
    obtain ⟨aop, cpp, rfl⟩ := ownE_len hR.out.op
    have hp : (M.pl ++ List.replicate k []).length = M.b.length + k := by rw [List.length_append, List.length_replicate, HE.out]
    have hb : (M.b ++ l).length = M.b.length + l.length := List.length_append
    obtain ⟨x, hx⟩ : ∃ x, x = M.b.length + k := ⟨_, rfl⟩
    obtain ⟨y, hy⟩ : ∃ y, y = M.b.length + l.length := ⟨_, rfl⟩
    have hR' : Rw R { M with b := M.b ++ l, pl := M.pl ++ List.replicate k [] } (grow f w wr) (.slice aob (M.b ++ l).length cpb) (.slice aop (M.pl ++ List.replicate k []).length cpp) wr := hR.out
    rw [hp, hb, ← hx, ← hy] at hR'
    have d1 := blk_cell hR'.heap 1 (v := .slice aob y cpb) rfl
    have d2 := blk_cell hR'.heap 2 (v := .slice aop x cpp) rfl
    have hlx : lenIn wr ⟨R, 2, none⟩ = x := by unfold lenIn; rw [d2]
    have HR2 := Lib.hid hR'
    have HLX := Lib.hid hlx
    have HX := Lib.hid hx
    have HY := Lib.hid hy
    have HP := Lib.hid hp
    clear hR hR' hp hb hx hy hlx
    by_cases hlt : k < l.length
    · have hxy : x < y := by rw [HX.out, HY.out]; omega
      have hx1 : x ≤ 900000 := by rw [HX.out]; omega
      have hy1 : y ≤ 900000 := by rw [HY.out]; exact hl
      go_wp2
      go_quiet (fail)
      have HW := Lib.hid (HR2.out.kept (W' := (wr.drewN nq).alloc (.cells #[.string ⟨#[]⟩] 9 (0, 0))) (fun j hj _ => ((below_drewN (Below.refl wr.heap.size wr) nq).alloc (Nat.le_refl _) _).block j hj))
      go_wp2_with (at_builtin; refine wpList_apdS _ rfl _ _ 35 rfl 0 9 Try.underlying35 infoStr _ _ rfl HW.out.op wr.heap.size 1 [] rfl (cells_new (wr.drewN nq) [_] _ 0 _ rfl) (by rw [HP.out]; omega) (Nat.zero_le _) ?_; intro v1 w1 ho1 ha1 hl1; obtain ⟨ao1, n1, cp1, rfl⟩ := own_shape ho1; have HA := Lib.hid (HW.out.appP ho1 ha1 hl1); have c2 := blk_cell HA.out.1 2 (v := .slice aop x cpp) rfl; have f2 := blk_frozen HA.out.1 2; clear ho1 ha1 hl1)
      refine ⟨⟨k + 1, .slice aob y cpb, .slice ao1 n1 cp1, by omega, Lib.hid ?_, Lib.hid ?_⟩, ?_⟩
      · have h3 := HA.out.2.2.widen (g := grow f w (w1.setCell ⟨R, 2, none⟩ (.slice ao1 n1 cp1))) (fun j _ hj => ?_)
        · have e : M.pl ++ List.replicate k [] ++ [[]] = M.pl ++ List.replicate (k + 1) [] := by rw [List.append_assoc, ← List.replicate_succ']
          rw [← e]
          exact h3
        · have hs1 := hT.out.size
          have hs2 := HA.out.2.1.size
          have hs3 : ((wr.drewN nq).alloc (.cells #[.string ⟨#[]⟩] 9 (0, 0))).heap.size = wr.heap.size + 1 := by simp [World.drewN]
          rcases hj with (hj | hj) | hj
          · exact .inl hj
          · exact .inr ⟨hj.1, by omega⟩
          · exact .inr ⟨by omega, hj.2⟩
      · refine hT.out.trans ((Turn.of_below ((below_drewN (Below.refl wr.heap.size wr) nq).alloc (Nat.le_refl _) _)).then HA.out.2.1)
      · have h4 : lenIn (w1.setCell ⟨R, 2, none⟩ (.slice ao1 n1 cp1)) ⟨R, 2, none⟩ = x + 1 := by
          have h5 := HA.out.2.2
          obtain ⟨ao6, cp6, e6⟩ := ownE_len h5.op
          have d6 := blk_cell h5.heap 2 (v := .slice ao1 n1 cp1) rfl
          unfold lenIn
          rw [d6, e6]
          show (M.pl ++ List.replicate k [] ++ [[]]).length = x + 1
          rw [List.length_append, HP.out, HX.out]
          rfl
        rw [h4, HLX.out, HX.out]
        omega
    · obtain rfl : k = l.length := by omega
      have hxy : x = y := by rw [HX.out, HY.out]
      subst hxy
      go_wp2
      go_quiet (fail)
      go_wp2
      go_end0
      refine ⟨rfl, hT.out.then (Turn.of_below (below_drewN (Below.refl _ _) _)), ⟨_, _, HR2.out.kept (W' := wr.drewN nq) (fun j _ _ => rfl)⟩⟩

set_option maxRecDepth 100000 in
set_option maxHeartbeats 1000000 in
theorem rtwo_any (R : Nat) (M : MS) (f : Nat → Prop) (n : Int) (w : World) (h : RwE R M f w) (he : M.pl.length = M.b.length) (hl : M.b.length + 2 ≤ 900000) :
    Calls Try.prog 16 #[.pointer (some ⟨R, 0, none⟩), .int .i64 n] w (RAct R (M.put (two n)) f w) := by
  have HH := Lib.hid h
  have HE := Lib.hid he
  clear h he
  go_enter Try.func16, Try.ntmps16
  go_wp2_with fail
  refine (rput_any R M f (two n) _ _ (HH.out.below ((Below.refl _ _).alloc (Nat.le_refl _) _)) (readB_lit _ (two n) [_, _] _ 2 rfl (by simp [two, encB, byteOf_int])) HE.out (by rw [two_len]; exact hl)).mono ?_
  rintro e w1 ⟨rfl, ht, hw⟩
  go_wp2
  go_end0
  exact ⟨rfl, (Turn.of_below ((Below.refl _ _).alloc (Nat.le_refl _) _)).then ht, hw.widen fun k _ => grow_alloc k⟩
theorem four_bytes (n : Int) : (four n).map encB = [.int .u8 (n / 16777216 % 256), .int .u8 (n / 65536 % 256), .int .u8 (n / 256 % 256), .int .u8 (n % 256)] := by
  unfold four two
  simp only [List.cons_append, List.nil_append, List.map_cons, List.map_nil, encB, byteOf_int]
  rw [show n / 65536 / 256 = n / 16777216 by omega]

set_option maxRecDepth 100000 in
set_option maxHeartbeats 1000000 in
theorem rfour_any (R : Nat) (M : MS) (f : Nat → Prop) (n : Int) (w : World) (h : RwE R M f w) (he : M.pl.length = M.b.length) (hl : M.b.length + 4 ≤ 900000) :
    Calls Try.prog 18 #[.pointer (some ⟨R, 0, none⟩), .int .i64 n] w (RAct R (M.put (four n)) f w) := by
  have HH := Lib.hid h
  have HE := Lib.hid he
  clear h he
  go_enter Try.func18, Try.ntmps18
  go_wp2_with fail
  refine (rput_any R M f (four n) _ _ (HH.out.below ((Below.refl _ _).alloc (Nat.le_refl _) _)) (readB_lit _ (four n) [_, _, _, _] _ 4 rfl (four_bytes n)) HE.out (by show M.b.length + 4 ≤ 900000; exact hl)).mono ?_
  rintro e w1 ⟨rfl, ht, hw⟩
  go_wp2
  go_end0
  exact ⟨rfl, (Turn.of_below ((Below.refl _ _).alloc (Nat.le_refl _) _)).then ht, hw.widen fun k _ => grow_alloc k⟩
end Go.Proofs.Ytipabiiffaipdaa
