/- places: the iterator over the labels' places. -/
import Derived.RangeFuncNested
import Derived.RangeFuncBound
import Derived.RangeFuncCalls
import Derived.RangeFuncLeaves
import Derived.Shelf.Abstract
import Derived.Shelf.RegionOpen
import Derived.OwnWalkIn
import Derived.TacticsInMore
import Derived.LoopNIn
import Derived.LoopIn
import Derived.Test.YtipabiiffaipdaaValid
import Derived.Test.YtipabiiffaipdaaWalkMath
namespace Go.Proofs.Ytipabiiffaipdaa
open Go.RowKit Go.Shelf
attribute [local go_sem] Oper.semAt_some

set_option maxHeartbeats 400000 in
theorem places_any (n : List UInt8) (w : World) :
    Calls Try.prog 42 #[.string ⟨n.toArray⟩] w fun e w' => e = .returned (.func (.func 44) #[] #[.pointer (some ⟨w.heap.size, 0, none⟩)]) ∧ w' = w.alloc (.cells #[.string ⟨n.toArray⟩] 9) := by
  go_enter Try.func42, Try.ntmps42
  go_wp2
  go_ret
  exact ⟨rfl, rfl⟩

/-- What the iterators ask of a round: the box B holds what it held. -/
def KB (B : Nat) (W W' : World) : Prop := ∀ v, W.cell? ⟨B, 0, none⟩ = some v → W'.cell? ⟨B, 0, none⟩ = some v
theorem KB.refl (B : Nat) (W : World) : KB B W W := fun _ h => h
theorem KB.trans {B : Nat} {A W W' : World} (h : KB B A W) (k : KB B W W') : KB B A W' := fun v e => k v (h v e)
theorem KB.below {B : Nat} {W W' : World} (h : Below W.heap.size W W') : KB B W W' := fun _ e => (h.cell (p := ⟨B, 0, none⟩) (cell_lt e)).trans e
theorem KB.alloc (B : Nat) (W : World) (o : Obj) : KB B W (W.alloc o) := KB.below ((Below.refl _ W).alloc (Nat.le_refl _) o)
theorem KB.setCell {B b : Nat} (h : b ≠ B) (W : World) (v : Value) : KB B W (W.setCell ⟨b, 0, none⟩ v) := fun u e => by
  rw [World.cell?_of_block (w := W) (Below.heap_setCell W ⟨b, 0, none⟩ v B (fun e => h e.symm))]; exact e
theorem kb_t {B : Nat} {A W C : World} (h : KB B A W) (k : KB B W C) : KB B A C := h.trans k
theorem kb_b {B : Nat} {w : World} (W : World) (l : Nat) (o o' : Obj) (_ : w.heap.size ≤ l) (h : W.heap[l]? = some o) (hc : o.isCells = false) (_ : o.isWalk = false) : KB B W (W.putObj l o') := fun _ e =>
  cell_kept e (grownBy_putObj' W l o') (fun r hr => by cases hr; exact ⟨o, h, hc⟩)

set_option maxRecDepth 100000 in
set_option maxHeartbeats 1000000 in
theorem places1_in (m l Bn : Nat) (hm : 1 ≤ m) (n : List UInt8) (hs : n.length ≤ 100000) (J Jx : List (Nm.Pos n) → World → Prop)
    (hY : ∀ pre x W, J pre W → pre.length < 255 → (pre ++ [x]).map Subtype.val <+: Nm.placesN n → YieldAt Fence.wide (m - 1) Try.prog l #[.int .i64 (x.1 : Int)] W fun e W' =>
      (e = .returned (.bool true) ∧ J (pre ++ [x]) W' ∧ KB Bn W W') ∨ (e = .returned (.bool false) ∧ Jx (pre ++ [x]) W'))
    (W : World) (hBn : W.cell? ⟨Bn, 0, none⟩ = some (.string ⟨n.toArray⟩)) (h0 : J [] W) :
    CallsIn Fence.wide m Try.prog 44 #[.func (.yield l) #[] #[], .pointer (some ⟨Bn, 0, none⟩)] W fun e W' => (∃ v, e = .returned v) ∧
      ((∃ ys, ys.map Subtype.val = Nm.placesN n ∧ J ys W') ∨ (∃ pre, pre.map Subtype.val <+: Nm.placesN n ∧ Jx pre W')) := by
  refine callsIn_of_wp Try.func44 rfl trivial ?_ rfl
  simp only [Try.ntmps44, List.size_toArray, List.length_cons, List.length_nil, Nat.reduceAdd, Nat.reduceSub, Array.replicate_succ, Array.replicate_zero, List.push_toArray, List.append_toArray, List.nil_append, List.cons_append]
  cases hl : Nm.labs n with
  | none =>
    have hv : Nm.valid n = false := by simp [Nm.valid, hl]
    have hp : Nm.placesN n = [] := by simp [Nm.placesN, Nm.labsD, hl, Nm.posOf]
    have HV := Lib.hid hv
    have HP := Lib.hid hp
    clear hv hp hl
    gi_wp2_with (refine ⟨trivial, ?_⟩; gi_at_call 32; refine (callsIn_wide.2 (valid_any n _ hs)).mono ?_; rw [HV.out]; rintro e w' ⟨rfl, rfl⟩)
    refine bodyPost_ret (results_none rfl _ _ _) rfl ?_
    exact ⟨⟨_, rfl⟩, .inl ⟨[], by simp [HP.out], h0⟩⟩
  | some ls =>
    have hv : Nm.valid n = true := by simp [Nm.valid, hl]
    have hp : Nm.placesN n = Nm.posOf 0 ls := by simp [Nm.placesN, Nm.labsD, hl]
    obtain ⟨hn, hg, h255⟩ := Nm.labs_iff.1 hl
    have HV := Lib.hid hv
    have HP := Lib.hid hp
    have HN := Lib.hid hn
    have HG := Lib.hid hg
    clear hv hp hl hn hg
    gi_wp2_with (refine ⟨trivial, ?_⟩; gi_at_call 32; refine (callsIn_wide.2 (valid_any n _ hs)).mono ?_; rw [HV.out]; rintro e w' ⟨rfl, rfl⟩)
    gi_loopw [3] (fun p wr => ∃ (pre : List (Nm.Pos n)) (a b : List (List UInt8)), p = .int .i64 (Nm.encL a : Int) ∧ Hid (ls = a ++ b) ∧ Hid (pre.map Subtype.val = Nm.posOf 0 a) ∧ J pre wr ∧ wr.cell? ⟨Bn, 0, none⟩ = some (.string ⟨n.toArray⟩)) (fun p _ => n.length + 1 - (intOf p).toNat)
    case atStart => exact ⟨[], [], ls, rfl, Lib.hid rfl, Lib.hid rfl, h0, hBn⟩
    case round =>
      obtain ⟨pre, a, b, rfl, hab, hpre, hJ, hBr⟩ := hrel
      cases b with
      | nil =>
        obtain ⟨hk, h00⟩ := Nm.at_end (n := n) (a := a) (by rw [HN.out, hab.out, List.append_nil])
        have hc : ((⟨n.toArray⟩ : ByteArray)[Nm.encL a]'hk) = n[Nm.encL a] := rfl
        have hz : ((n[Nm.encL a].toNat : Int) != 0) = false := by rw [h00]; rfl
        clear h00
        gi_wp2
        go_end0
        exact ⟨⟨_, rfl⟩, .inl ⟨pre, by rw [hpre.out, HP.out, hab.out, List.append_nil], hJ⟩⟩
      | cons lb b =>
        obtain ⟨hk, hne, hto, h1, h63, hlen, hlab⟩ := Nm.at_label (n := n) (a := a) (b := b) (l := lb) (by rw [HN.out, hab.out]) (by rw [← hab.out]; exact HG.out)
        have hc : ((⟨n.toArray⟩ : ByteArray)[Nm.encL a]'hk) = n[Nm.encL a] := rfl
        have hz : ((lb.length : Int) != 0) = true := by rw [bne_iff_ne]; omega
        obtain ⟨x, hx⟩ : ∃ x : Nm.Pos n, x.1 = Nm.encL a := ⟨⟨Nm.encL a, hk, by omega⟩, rfl⟩
        obtain ⟨fn, tmps, assign, body, hy, hR⟩ := hY pre x wr hJ (by have h := congrArg List.length hpre.out; rw [List.length_map, Nm.posOf_length] at h; have := Nm.length_le_encL (ls := a); omega) (by rw [List.map_append, hpre.out, HP.out, hab.out, Nm.posOf_append]; exact ⟨Nm.posOf (Nm.encL a + (1 + lb.length)) b, by simp [hx, Nm.posOf]⟩)
        rw [hx] at hy
        have HX := Lib.hid hx
        have HLab := Lib.hid hlab
        clear hne hx hlab
        gi_wp2
        refine hR.mono ?_
        rintro e W3 (⟨rfl, hJ3, hk3⟩ | ⟨rfl, hJx3⟩)
        · have hBr3 : W3.cell? ⟨Bn, 0, none⟩ = some (.string ⟨n.toArray⟩) := hk3 _ hBr
          gi_wp2
          go_roundw
          case rel => exact ⟨pre ++ [x], a ++ [lb], b, by rw [Nm.encL_append]; simp [Nm.encL], Lib.hid (by rw [hab.out]; simp), Lib.hid (by rw [List.map_append, hpre.out, Nm.posOf_append]; simp [HX.out, Nm.posOf]), hJ3, hBr3⟩
          case measure => simp [intOf]; omega
        · gi_wp2
          refine bodyPost_ret (results_none rfl _ _ _) rfl ?_
          exact ⟨⟨_, rfl⟩, .inr ⟨pre ++ [x], by rw [List.map_append, hpre.out, HP.out, hab.out, Nm.posOf_append]; exact ⟨Nm.posOf (Nm.encL a + (1 + lb.length)) b, by simp [HX.out, Nm.posOf]⟩, hJx3⟩⟩

theorem places_stops (m : Nat) (hm : 1 ≤ m) (Bn : Nat) (n : List UInt8) (hs : n.length ≤ 100000) (w : World) (hc : w.cell? ⟨Bn, 0, none⟩ = some (.string ⟨n.toArray⟩)) :
    SeqStopsK Fence.wide m Try.prog 44 #[.pointer (some ⟨Bn, 0, none⟩)] (fun x : Nm.Pos n => #[Value.int .i64 (x.1 : Int)]) (KB Bn) (fun ys => ys.map Subtype.val = Nm.placesN n) (fun pre => pre.map Subtype.val <+: Nm.placesN n) 255 w :=
  fun l J Jx W hW _ _ hY h0 => places1_in m l Bn hm n hs J Jx (fun pre x W1 hJ hl _ => hY pre x W1 hJ hl) W (KB.below hW _ hc) h0
end Go.Proofs.Ytipabiiffaipdaa
