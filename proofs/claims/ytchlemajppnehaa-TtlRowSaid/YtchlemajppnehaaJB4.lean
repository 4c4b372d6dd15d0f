/- 3 texts put together: Tl, Frame9, Frame11. -/
import Derived.Test.YtchlemajppnehaaRows
import GoSem.ClaimSevenParts
import Derived.Deep.DeepHandedRow
import Derived.Deep.DeepWitnessRowRef
import Derived.Stop.LaidErr
import Derived.Carry
import Derived.ProofKit
import Derived.OpenShut
import Derived.SliceStrings
import Derived.ChangeSlices
import Derived.LaidLaws
import Derived.Lib.LaidTab
import Derived.Deep.Slices
import Derived.Deep.Fields
import Derived.Test.YtchlemajppnehaaJB3
/- The laws of chapter 11: TtlTells, TtlGoes, TtlCaps. -/
set_option maxRecDepth 100000
namespace Go.Proofs.Ytchlemajppnehaa
open Go Go.RowKit Go.Shelf
section
variable {a b c : Int} {l : List Int} {v : Value} {x : Nat → Prop} {w : World}
set_option maxHeartbeats 4000000 in
theorem tells11_any (ha : Tt.B a) (hb : Tt.B b) (hr : RK encZ x v l w) : Calls Try.prog 3 #[.int .i64 a, .int .i64 b, .int .i64 c, v] w fun e w' => e = .returned (.bool true) ∧ Below w.heap.size w w' := by
  obtain ⟨ao, cap, rfl, _, _⟩ := hr.form
  by_cases h : 60 < l.length
  · have d : decide ((60 : Int) < (l.length : Int)) = true := by simp; omega
    go_enter Try.func3, Try.ntmps3
    go_wp2_with (go_at_call 9; refine (awake11_any _).mono ?_; rintro e w1 ⟨rfl, b1⟩)
    go_ret
    exact ⟨rfl, b1⟩
  · have d : decide ((60 : Int) < (l.length : Int)) = false := by simp; omega
    have hl : l.length < 100000 := by omega
    go_enter Try.func3, Try.ntmps3
    go_wp2_with fail
    refine (cap_any _ _ _).mono ?_
    rintro e w1 ⟨rfl, rfl⟩
    go_wp2_with fail
    refine (rcap_any _ _ _).mono ?_
    rintro e w1 ⟨rfl, rfl⟩
    go_wp2_with fail
    refine (expiry_any ha hb _).mono ?_
    rintro e w1 ⟨rfl, rfl⟩
    go_wp2_with fail
    refine (rexpiry_any ha hb _).mono ?_
    rintro e w1 ⟨rfl, rfl⟩
    go_wp2_with fail
    refine (left_any ha hb _).mono ?_
    rintro e w1 ⟨rfl, rfl⟩
    go_wp2_with fail
    refine (rleft_any ha hb _).mono ?_
    rintro e w1 ⟨rfl, rfl⟩
    go_wp2_with fail
    refine (least_any hr hl).mono ?_
    rintro e w1 ⟨rfl, rfl⟩
    go_wp2_with fail
    refine (rleast_any hr hl).mono ?_
    rintro e w1 ⟨rfl, rfl⟩
    go_wp2_with fail
    refine (tover_any ha hb _).mono ?_
    rintro e w1 ⟨rfl, rfl⟩
    go_wp2_with fail
    refine (rleft_any ha hb _).mono ?_
    rintro e w1 ⟨rfl, rfl⟩
    go_wp2_with fail
    refine (negative_any _ _ _ _).mono ?_
    rintro e w1 ⟨rfl, b1⟩
    go_wp2_with fail
    refine (rnegative_any _ _ _ _).mono ?_
    rintro e w2 ⟨rfl, rfl⟩
    go_wp2_with fail
    refine (awake11_any _).mono ?_
    rintro e w2 ⟨rfl, b2⟩
    go_wp2
    go_ret
    exact ⟨rfl, below_trans b1 b2⟩
theorem Tt.goes1 {now n : Int} (h1 : 0 ≤ now) (h2 : now ≤ 274877906944) (h3 : 0 ≤ n) (h4 : n ≤ 2147483648) : Tt.expiry now n = now + n := by unfold Tt.expiry; omega
theorem Tt.goes2 {now n : Int} (h3 : 0 ≤ n) (h4 : n ≤ 2147483648) : Tt.left (now + n) now = n := by unfold Tt.left; split <;> omega
theorem Tt.goes3 {now n k : Int} (h3 : 0 ≤ n) (h4 : n ≤ 2147483648) (h5 : 0 ≤ k) : Tt.left (now + n) (now + k) = max (n - k) 0 := by unfold Tt.left; split <;> omega
set_option maxHeartbeats 4000000 in
theorem goes11_any (now n k : Int) (w : World) : Calls Try.prog 4 #[.int .i64 now, .int .i64 n, .int .i64 k] w fun e w' => e = .returned (.bool true) ∧ Below w.heap.size w w' := by
  by_cases h1 : 0 ≤ now ∧ now ≤ 274877906944 ∧ 0 ≤ n ∧ n ≤ 2147483648 ∧ 0 ≤ k ∧ k ≤ 4294967296
  · obtain ⟨h1, h2, h3, h4, h5, h6⟩ := h1
    have d1 : decide (now < 0) = false := by simp; omega
    have d2 : decide (274877906944 < now) = false := by simp; omega
    have d3 : decide (n < 0) = false := by simp; omega
    have d4 : decide (2147483648 < n) = false := by simp; omega
    have d5 : decide (k < 0) = false := by simp; omega
    have d6 : decide (4294967296 < k) = false := by simp; omega
    have e1 : IntKind.i64.wrap (now + n) = now + n := IntWalk.i64_in _ (by omega)
    have e2 : IntKind.i64.wrap (now + k) = now + k := IntWalk.i64_in _ (by omega)
    have e3 : IntKind.i64.wrap (n - k) = n - k := IntWalk.i64_in _ (by omega)
    have g1 := Tt.goes1 h1 h2 h3 h4
    have g2 := Tt.goes2 (now := now) h3 h4
    have g3 := Tt.goes3 (now := now) (k := k) h3 h4 h5
    have bn : Tt.B now := ⟨by omega, by omega⟩
    have bm : Tt.B n := ⟨by omega, by omega⟩
    have bs : Tt.B (now + n) := ⟨by omega, by omega⟩
    have bk : Tt.B (now + k) := ⟨by omega, by omega⟩
    have E := expiry_any bn bm w
    have L1 := left_any bs bn w
    have L2 := left_any bs bk w
    have O := tover_any bs bk w
    rw [g1] at E
    rw [g2] at L1
    rw [g3] at L2 O
    have hm : (max (n - k) 0 == 0) = decide (n ≤ k) := by
      by_cases h : n ≤ k
      · rw [decide_eq_true h, beq_iff_eq]; omega
      · rw [decide_eq_false h, beq_eq_false_iff_ne]; omega
    rw [hm] at O
    clear g1 g2 g3 bn bm bs bk hm
    go_enter Try.func4, Try.ntmps4
    go_wp2_with fail
    refine E.mono ?_
    rintro e w1 ⟨rfl, rfl⟩
    go_wp2_with fail
    refine L1.mono ?_
    rintro e w1 ⟨rfl, rfl⟩
    go_wp2_with fail
    refine L2.mono ?_
    rintro e w1 ⟨rfl, rfl⟩
    clear E L1 L2
    go_wp2_with (go_at_call 18; refine O.mono ?_; rintro e w1 ⟨rfl, rfl⟩)
    all_goals (
      go_wp2_with (go_at_call 9; refine (awake11_any _).mono ?_; rintro e w2 ⟨rfl, b2⟩)
      go_ret
      exact ⟨rfl, b2⟩)
  · go_enter Try.func4, Try.ntmps4
    go_wp2_with (go_at_call 9; refine (awake11_any _).mono ?_; rintro e w1 ⟨rfl, b1⟩)
    all_goals first
      | (go_ret; exact ⟨rfl, b1⟩)
      | (exfalso; omega)
end
end Go.Proofs.Ytchlemajppnehaa

/- The frame of the laws of chapter 9: the arguments opened, read as they did, the law's promise from a walk. -/
set_option maxRecDepth 100000
namespace Go.Proofs.Ytchlemajppnehaa
open Go.ChangeShapes Go.WideShapes Go.ChangeAt Go.RowKit
theorem laidOut : laidOutB Try.prog = true := by kernel_rfl
theorem own : ownKnob Try.prog.godebug = none := by kernel_rfl
theorem getD_at {α : Type} {l : List α} {d : α} {i : Nat} (h : i < l.length) : l.getD i d = l[i] := by simp [List.getD, h]
theorem zero_maxLen : 0 ≤ maxLen := Nat.zero_le _
abbrev laidList : List (String × DataW Unit) := []
noncomputable def laidWorld (os : Os) : World := World.holding Try.prog os ⟨#[], #[], []⟩
theorem laid_met (os : Os) (args : Array Value) : laidMet Try.prog [] ((laidWorld os).forCall (fun _ _ => 0) ⟨#[], args, []⟩).memory :=
  laidMet_of_run' 8 (by kernel_rfl) (by kernel_rfl)
/-- What is read element by element is read as a whole. -/
theorem RK.ofEach {α : Type} {enc : α → List Value} {k : Nat} (hk : ∀ a, (enc a).length = k) (h0 : 0 < k) {l : List α} {W : World} {b off cap : Nat} (hcap : l.length ≤ cap) (hc : ∀ (i : Nat) (h : i < l.length) (f : Nat), f < k → W.cell? ⟨b, off + (i * k + f), none⟩ = (enc l[i])[f]?) :
    RK enc (fun k => k < W.heap.size) (.slice (some ⟨b, off, none⟩) l.length cap) l W :=
  ⟨some ⟨b, off, none⟩, cap, rfl, hcap, fun j u hu => by
    obtain ⟨hj, hu2⟩ := flat_at enc k hk h0 l j u hu
    have h2 := hc (j / k) hj (j % k) (Nat.mod_lt _ h0)
    have e : j / k * k + j % k = j := by rw [Nat.mul_comm]; exact Nat.div_add_mod j k
    rw [hu2, e] at h2
    exact ⟨b, off, rfl, cell_lt h2, h2⟩⟩
section
variable {H : Type} {enc : TypeId × Value → H} {W : World}
theorem arg_int {r : Reach} {b0 : Nat} {v : Value} {d : DataW H} {ps : List MemPlace} (hval : Value.okWide Try.prog W r b0 3 v) (hd : DataW.Trod enc Try.prog W 0 (fun _ => true) true 3 v d ps) :
    ∃ z : Int, v = .int .i64 z ∧ -9223372036854775808 ≤ z ∧ z ≤ 9223372036854775807 := by
  obtain ⟨z, rfl, _, _, hw⟩ := open_int Try.underlying3 hval hd
  exact ⟨z, rfl, bounds_i64 hw⟩
theorem arg_ints {b0 : Nat} {v : Value} {d : DataW H} {ps : List MemPlace} (hval : Value.okWide Try.prog W .any b0 22 v) (hd : DataW.Trod enc Try.prog W 0 (fun _ => true) true 22 v d ps) :
    ∃ zs : List Int, RK encZ (fun k => k < W.heap.size) v zs W ∧ (∀ z ∈ zs, -9223372036854775808 ≤ z ∧ z ≤ 9223372036854775807) ∧ zs.length ≤ maxLen := by
  obtain ⟨a0, len, cap, rfl⟩ := okWide_slice Try.underlying22 hval
  obtain ⟨fuel, hf⟩ := hd
  rcases open_ints Try.underlying22 Try.underlying3 (by kernel_rfl) hf with ⟨hcs, _⟩ | ⟨a, len', cap', zs, hcs, _, hle, hmax, hall, _, hc, hw⟩
  · simp [Value.cells] at hcs
    obtain ⟨rfl, rfl, rfl⟩ := hcs
    exact ⟨[], RK.nil _ _ _, by simp, zero_maxLen⟩
  · simp [Value.cells] at hcs
    obtain ⟨rfl, rfl, rfl⟩ := hcs
    simp only [if_true] at hall
    refine ⟨zs.take len, ?_, fun z hz => bounds_i64 (hw z (List.mem_of_mem_take hz)), by rw [List.length_take]; omega⟩
    by_cases h0 : 0 < len
    · obtain ⟨b, off, rfl, hcc⟩ := ints_at hc (by omega)
      have := RK.ofEach (enc := encZ) encZ_len (by omega) (l := zs.take len) (W := W) (b := b) (off := off) (cap := cap) (by rw [List.length_take]; omega) (fun i hi f hf => by
        rw [List.length_take] at hi
        obtain rfl : f = 0 := by omega
        rw [show off + (i * 1 + 0) = off + i by omega, hcc i (by omega), List.getElem_take, getD_at (by omega)]
        rfl)
      rw [List.length_take, Nat.min_eq_left (by omega)] at this
      exact this
    · obtain rfl : len = 0 := by omega
      exact ⟨some a, cap, rfl, Nat.zero_le _, fun j u hu => by simp at hu⟩
/-- What reads as it did. -/
theorem trodAll_below : ∀ {ts : List TypeId} {vs : List Value} {ds : List (DataW H)} {ps : List MemPlace} {W' : World}, DataW.TrodAll enc Try.prog W 0 (fun _ => true) true ts vs ds ps → Below W.heap.size W W' → (∀ x ∈ ps, x.block < W.heap.size) → (∀ t ∈ ts, Try.prog.readableRec t = true ∧ t < Try.prog.types.size) →
    DataW.TrodAll enc Try.prog W' 0 (fun b => decide (b < W.heap.size)) true ts vs ds ps
  | [], [], [], _, _, h, _, _, _ => h
  | t :: ts, v :: vs, d :: ds, _, _, ⟨p, q, h1, h2, e⟩, hb, hlt, hr =>
    ⟨p, q, Below.trod laidOut (hr t (List.mem_cons_self ..)).1 (hr t (List.mem_cons_self ..)).2 h1 hb (fun x hx => hlt x (by rw [e]; exact List.mem_append_left _ hx)),
      trodAll_below h2 hb (fun x hx => hlt x (by rw [e]; exact List.mem_append_right _ hx)) (fun t ht => hr t (List.mem_cons_of_mem _ ht)), e⟩
theorem law_post {s : ChangeSpec} {f : Func} {args : Array Value} {ds gs : List (DataW H)} {before : List MemPlace} {W' : World} (hW : DataW.Whole enc Try.prog f.params.toList s.vars false W args.toList ds gs before) (hvars : s.vars = []) (hb : Below W.heap.size W W')
    (hres : f.resultTypes = #[4]) (hfn : s.fn H (ds ++ gs) = { results := [.lit (.bool true)], args := ds }) (hr : ∀ t ∈ f.params.toList, Try.prog.readableRec t = true ∧ t < Try.prog.types.size) :
    s.post enc Try.prog f false true false false W args (.bool true) W' := by
  have hW' := hW
  obtain ⟨p, q, hA, hV, rfl, _, _⟩ := hW
  rw [hvars] at hV
  obtain ⟨rfl, rfl⟩ := trodVars_none hV
  refine ⟨ds, [], p ++ [], [], p, [], hW', ?_, ?_, ?_, hb.frame _, fun h => by cases h⟩
  · rw [hfn, hres]
    exact trodAll_mk1 (shut_bool Try.underlying4 true)
  · rw [hfn]
    exact trodAll_below hA hb (fun x hx => by simpa using hW'.lt x (List.mem_append_left _ hx)) hr
  · rw [hfn, hvars]
    rfl
end
end Go.Proofs.Ytchlemajppnehaa

/- The frame of the laws of chapter 11: what is read. -/
set_option maxRecDepth 100000
namespace Go.Proofs.Ytchlemajppnehaa
open Go.ChangeShapes Go.WideShapes Go.ChangeAt Go.RowKit
theorem readT11 : ∀ t ∈ [3, 22], Try.prog.readableRec t = true ∧ t < Try.prog.types.size := by
  intro t ht
  simp only [List.mem_cons, List.not_mem_nil, or_false] at ht
  rcases ht with rfl | rfl
  all_goals exact ⟨by kernel_rfl, of_decide_eq_true (by kernel_rfl)⟩
end Go.Proofs.Ytchlemajppnehaa
