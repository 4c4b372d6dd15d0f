/- parts of freshetlaw3: where names stand, as the iterator tells. -/
import Derived.Test.YtnnoooecbbkggaaDoorNames
import Derived.Test.YtnnoooecbbkggaaDoorAppK
namespace Go.Proofs.YtnnoooecbbkggaaDoor
open Go.RowKit Go.Shelf
attribute [local go_sem] Oper.semAt_some

theorem names_stops (m : Nat) (hm : 1 ≤ m) (Bt Bd : Nat) (t : Int) (d : List UInt8) (hs : d.length ≤ 100000) (w : World) (hBt : w.cell? ⟨Bt, 0, none⟩ = some (.int .i64 t)) (hBd : w.cell? ⟨Bd, 0, none⟩ = some (.string ⟨d.toArray⟩)) :
    SeqStopsB Fence.wide m Tryd.prog 61 #[.pointer (some ⟨Bt, 0, none⟩), .pointer (some ⟨Bd, 0, none⟩)] (fun x : Nat × Nat => #[Value.int .i64 (x.1 : Int), .int .i64 (x.2 : Int)]) (KB Bd) (fun ys => ys = Rd.partsD t d) (fun pre => pre <+: Rd.partsD t d) 3 w :=
  fun l J Jx W hW hJ _ hY h0 => names1_in m l Bt Bd hm t d hs J Jx W hJ (fun pre x W1 h1 hl hp => by
    obtain ⟨fn, tmps, assign, body, hy, hR⟩ := hY pre x W1 h1 hl hp
    exact ⟨fn, tmps, assign, body, hy, hR.mono fun e W' h => h.imp (fun h => ⟨h.1, h.2.1, h.2.2.1⟩) (fun h => ⟨h.1, h.2.1⟩)⟩) (KB.below hW _ hBt) (KB.below hW _ hBd) h0

theorem ko_ownK {α : Type} {enc : α → List Value} {k : Nat} {e : TypeId} {base : Nat} {v : Value} {l : List α} {w w' : World} (h : OwnK enc k e base v l w) (hg : w.grownBy w' v.ownBlock) : KeepsOthers w w' :=
  KeepsOthers.of_grownBy hg (fun j o e ho => by
    rcases h.2 with ⟨rfl, _⟩ | ⟨g, cap, cur, rfl, _, hh, _⟩
    · cases e
    · cases e
      rw [hh] at ho
      cases ho
      rfl)
theorem equalIn_func {P : Program} (w : World) (d : Nat) (t : TypeId) {u : TypeDesc} (f : Fn) (x y : Array Value) (h : P.underlying t = some u) (hu : ∃ p r v, u = .func p r v) :
    (Op.equalIn (d + 1) t (.func f x y) .nilFunc).run P w = .ok false w := by
  obtain ⟨p, r, v, rfl⟩ := hu
  simp [Op.equalIn, run_underlying h]
theorem eql_nilFunc (W : World) (f B C : Nat) : (binOp .eql 55 (.func (.func f) #[] #[.pointer (some ⟨B, 0, none⟩), .pointer (some ⟨C, 0, none⟩)]) .nilFunc).run Tryd.prog W = .ok (.bool false) W := by
  simp only [binOp]
  simp [Op.equal, Op.maxDepth, equalIn_func W 9999 55 _ _ _ Tryd.underlying55 ⟨_, _, _, rfl⟩]

set_option maxRecDepth 100000 in
set_option maxHeartbeats 4000000 in
theorem parts_any (t : Int) (d : List UInt8) (w : World) (hs : d.length ≤ 100000) :
    Calls Tryd.prog 11 #[.int .i64 t, .string ⟨d.toArray⟩] w fun e w' => ∃ v, e = .returned v ∧ ReadP v (Rd.partsD t d) w' ∧ Below w.heap.size w w' := by
  refine (callsIn_wide (n := 9)).1 ?_
  refine callsIn_of_wp_marks Tryd.func11 rfl trivial ?_ rfl
  simp only [Tryd.ntmps11, List.size_toArray, List.length_cons, List.length_nil, Nat.reduceAdd, Nat.reduceSub, Array.replicate_succ, Array.replicate_zero, List.push_toArray, List.append_toArray, List.nil_append, List.cons_append]
  have hnil := eql_nilFunc
  gi_wp2_with (refine ⟨trivial, ?_⟩; gi_at_call 39; refine (callsIn_wide.2 (names_any t d _)).mono ?_; rintro e w' ⟨rfl, rfl⟩)
  have hbx := ((Boxed.new w 25 (.slice none 0 0)).alloc (.cells #[.int .i64 t] 3)).alloc (.cells #[.string ⟨d.toArray⟩] 9)
  have hbt := (Boxed.new (w.alloc (.cells #[.slice none 0 0] 25)) 3 (.int .i64 t)).alloc (.cells #[.string ⟨d.toArray⟩] 9)
  have hbd := Boxed.new ((w.alloc (.cells #[.slice none 0 0] 25)).alloc (.cells #[.int .i64 t] 3)) 9 (.string ⟨d.toArray⟩)
  have hbw : Below w.heap.size w (((w.alloc (.cells #[.slice none 0 0] 25)).alloc (.cells #[.int .i64 t] 3)).alloc (.cells #[.string ⟨d.toArray⟩] 9)) := (((Below.refl _ w).alloc (Nat.le_refl _) _).alloc (by simp) _).alloc (by simp; omega) _
  have hsz : (((w.alloc (.cells #[.slice none 0 0] 25)).alloc (.cells #[.int .i64 t] 3)).alloc (.cells #[.string ⟨d.toArray⟩] 9)).heap.size = w.heap.size + 3 := by simp
  simp only [World.size_alloc] at hbt hbd
  generalize (((w.alloc (.cells #[.slice none 0 0] 25)).alloc (.cells #[.int .i64 t] 3)).alloc (.cells #[.string ⟨d.toArray⟩] 9)) = W0 at *
  refine wpIn_rangeFunc_ownB rfl (by omega) (gf := 61) (lb := #[.pointer (some ⟨w.heap.size + 1, 0, none⟩), .pointer (some ⟨w.heap.size + 1 + 1, 0, none⟩)]) (by rfl) trivial (enters_of Tryd.func61 (by kernel_rfl) rfl)
    (names_stops _ (by omega) (w.heap.size + 1) (w.heap.size + 1 + 1) t d hs _ hbt.cell hbd.cell) kb_t kb_b (Below.refl _ _) (fun _ => rfl)
    (fun pre W => (((∃ v, Boxed W w.heap.size 25 v ∧ W.ownsRow w.heap.size 34 2 v pre.length (pre.flatMap encP) ∧ True) ∧ Boxed W (w.heap.size + 1 + 1) 9 (.string ⟨d.toArray⟩)) ∧ Below w.heap.size w W))
    (fun c pre W => False)
    (ownFrom_book (((Own.from (holdsRow_own w.heap.size w.heap.size 25 34 2 (fun pre : List (Nat × Nat) => pre.length) (fun pre => pre.flatMap encP) (fun _ _ => True)) _).and (Own.from (boxed_own (w.heap.size + 1 + 1) 9 (fun _ : List (Nat × Nat) => .string ⟨d.toArray⟩)) _)).and (ownFrom_below (Nat.le_refl _) (by omega))))
    (fun c s A B row hs hg hr => hs)
    ⟨⟨⟨_, hbx, World.ownsRow_nil _ _ _ _, trivial⟩, hbd⟩, hbw⟩
    (fun x => { tmps := #[.int .i64 t, .string ⟨d.toArray⟩, undef, undef, .slice none 0 0, .pointer (some ⟨w.heap.size, 0, none⟩), (.func (.func 61) #[] #[.pointer (some ⟨w.heap.size + 1, 0, none⟩), .pointer (some ⟨w.heap.size + 1 + 1, 0, none⟩)]), .int .i64 (x.1 : Int), .int .i64 (x.2 : Int), .int .i64 t, .string ⟨d.toArray⟩, (.func (.func 61) #[] #[.pointer (some ⟨w.heap.size + 1, 0, none⟩), .pointer (some ⟨w.heap.size + 1 + 1, 0, none⟩)]), (.func (.func 61) #[] #[.pointer (some ⟨w.heap.size + 1, 0, none⟩), .pointer (some ⟨w.heap.size + 1 + 1, 0, none⟩)]), .bool false, (.func (.func 61) #[] #[.pointer (some ⟨w.heap.size + 1, 0, none⟩), .pointer (some ⟨w.heap.size + 1 + 1, 0, none⟩)]), .int .i64 (x.1 : Int), .int .i64 (x.2 : Int), undef, undef, undef, undef, undef, undef, undef], defers := [] }) ?assign ?body ?done ?stop
  case assign =>
    intro l x W K hK
    gi_wp2
    exact hK
  case body =>
    rintro l1 pre x W ⟨⟨⟨v0, hx, ho0, _⟩, hd⟩, hbl⟩ hlen hsp
    have ho : OwnK encP 2 34 w.heap.size v0 pre W := ho0
    clear ho0
    have hwr := hbl.size
    have c5 := hx.cell
    clear hsp
    gi_wp2_with (gi_at_builtin; refine wpListIn_apk _ rfl _ _ 25 rfl encP 2 encP_len (by omega) encP_one w.heap.size 34 _ 16 Tryd.underlying25 infoP rfl v0 pre rfl (ownK_alloc ho _) ⟨_, 0, none⟩ 1 1 [x] rfl rfl (fun j u hj => cells_new _ [.int .i64 (x.1 : Int), .int .i64 (x.2 : Int)] _ j u (by simp only [List.flatMap_cons, List.flatMap_nil, List.append_nil] at hj; exact hj)) (by omega) (by omega) (by simp; omega) ?_; intro v1 w1 ho1 hg1 _; have hx1 := (hx.alloc _).kept hg1 (fun e => ownK_box ho hx (by decide) e.symm); have hd1 := (hd.alloc _).kept hg1 (fun e => ownK_box ho hd (by decide) e.symm); have c1 := hx1.cell; have f1 := hx1.frozen; obtain ⟨ao1, cp1, rfl, _⟩ := ownK_form ho1; refine Hid.out ?_)
    refine Lib.hid ?_
    have hl1 : (pre ++ [x]).length = pre.length + 1 := by simp
    rw [hl1] at ho1
    clear hl1
    have hb1 : Below w.heap.size w w1 := (hbl.alloc hwr _).trans (below_ownK (ownK_alloc ho _) hg1 (by simp; omega))
    have hko := (((KeepsOthers.alloc W (.cells #[.int .i64 (x.1 : Int), .int .i64 (x.2 : Int)] 34)).trans (ko_ownK (ownK_alloc ho _) hg1)).trans (KeepsOthers.setCell w1 ⟨w.heap.size, 0, none⟩ (.slice ao1 (pre.length + 1) cp1))).from W0.heap.size
    have hown2 := ownK_grown ho1 (grownBy_setCell' w1 w.heap.size (.slice ao1 (pre.length + 1) cp1)) (fun g e e2 => ownK_box ho1 hx1 (by decide) (by rw [e, e2]))
    have hkb : KB (w.heap.size + 1 + 1) W (w1.setCell ⟨w.heap.size, 0, none⟩ (.slice ao1 (pre.length + 1) cp1)) := fun u hu => by
      rw [hd.cell] at hu
      cases hu
      exact (hd1.other (by omega) _).cell
    gi_wp2
    exact ⟨keepsFrom_book hko, hkb, ⟨⟨_, hx1.set _, hown2, trivial⟩, hd1.other (by omega) _⟩, hb1.setCell (p := ⟨w.heap.size, 0, none⟩) (Nat.le_refl _) _⟩
  case done =>
    rintro D ys W hD hS ⟨⟨⟨v, hx, ho, _⟩, hd⟩, hbl⟩ hK
    have c5 := hx.cell
    have HS := Lib.hid hS
    clear hS
    gi_wp2
    refine ⟨by simp, .inl ⟨_, _, rfl, run_takeDeferred hK, ?_⟩⟩
    exact ⟨_, results_tmp rfl _ _ _, v, rfl, by rw [← HS.out]; exact readP_own (base := w.heap.size) (ownsRow_putObj ho _ hK rfl), below_putD hbl (by omega) hK rfl rfl _⟩
  case stop =>
    rintro D c pre W hD hSp h hK
    exact h.elim
end Go.Proofs.YtnnoooecbbkggaaDoor
