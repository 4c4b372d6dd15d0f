/- Sets of records that are dealt out by turns come in the order of their names' first ones, each with its own in order.
   Conditions: those of the row, none beside. -/
import Derived.BigQuiet
import Derived.Deep.QuietTactic
import Derived.Test.YtdodamkndigjkaaJB32
import Derived.Test.YtdodamkndigjkaaJB29
import Derived.Test.YtdodamkndigjkaaJB27
import Derived.Test.YtdodamkndigjkaaJB26
import Derived.Test.YtdodamkndigjkaaJB20
/- What MatchOrder says, as mathematics: the records dealt so far, their groups, keys and counts. -/
namespace Go.Proofs.Ytdodamkndigjkaa
namespace Mt
open Rd
def dl (a b : List Int) (k : Nat) : List RR := (List.range k).map fun i => dealt (a.getD i 0) (b.getD i 0) i
theorem dl_succ (a b : List Int) (k : Nat) : dl a b (k + 1) = dl a b k ++ [dealt (a.getD k 0) (b.getD k 0) k] := by simp [dl, List.range_succ]
theorem dl_len (a b : List Int) (k : Nat) : (dl a b k).length = k := by simp [dl]
theorem four {r : Int} (h : 0 ≤ r ∧ r < 4) : r = 0 ∨ r = 1 ∨ r = 2 ∨ r = 3 := by omega
theorem dealt_name (a b : Int) (i : Nat) : Nm.fold (dealt a b i).name = (dealt a b i).name := by
  have h := four (roundI_bounds a 4 (by decide))
  show Nm.fold [1, UInt8.ofNat (97 + (roundI a 4).toNat), 0] = [1, UInt8.ofNat (97 + (roundI a 4).toNat), 0]
  rcases h with h | h | h | h <;> rw [h] <;> decide
theorem dealt_data (a b : Int) (i : Nat) : foldData (dealt a b i).typ (dealt a b i).data = [UInt8.ofNat i] := by
  have h := roundI_bounds b 2 (by decide)
  have h2 : roundI b 2 = 0 ∨ roundI b 2 = 1 := by omega
  unfold dealt foldData partsD
  rcases h2 with h | h <;> rw [h] <;> rfl
theorem byte_inj {i j : Nat} (hi : i < 256) (hj : j < 256) (h : UInt8.ofNat i = UInt8.ofNat j) : i = j := by
  have := congrArg UInt8.toNat h
  simp at this
  omega
theorem dealt_apart {a b c d : Int} {i j : Nat} (hi : i < 256) (hj : j < 256) (h : i ≠ j) : sameR (dealt a b i) (dealt c d j) = false := by
  rw [Bool.eq_false_iff]
  intro hs
  have h1 := sameR_iff.1 hs
  unfold foldR at h1
  injection h1 with _ _ _ _ h5
  rw [dealt_data, dealt_data] at h5
  injection h5 with h6
  exact h (byte_inj hi hj h6)
theorem mem_dl {a b : List Int} {k : Nat} {x : RR} (h : x ∈ dl a b k) : ∃ j, j < k ∧ x = dealt (a.getD j 0) (b.getD j 0) j := by
  unfold dl at h
  rw [List.mem_map] at h
  obtain ⟨j, hj, rfl⟩ := h
  exact ⟨j, List.mem_range.1 hj, rfl⟩
theorem met_dl (a b : List Int) {k : Nat} (hk : k < 256) (c d : Int) : met (sets (dl a b k)) (dealt c d k) = false := by
  unfold met
  rw [List.any_eq_false]
  intro g hg
  rw [Bool.not_eq_true, List.any_eq_false]
  intro x hx
  obtain ⟨j, hj, rfl⟩ := mem_dl (mem_sets _ g hg x hx)
  rw [dealt_apart (by omega) hk (by omega)]
  simp
theorem sets_dl (a b : List Int) {k : Nat} (hk : k < 256) : sets (dl a b (k + 1)) = put (sets (dl a b k)) (dealt (a.getD k 0) (b.getD k 0) k) := by
  rw [dl_succ, sets_snoc]
  unfold step
  rw [if_pos ⟨rfl, met_dl a b hk _ _⟩]
theorem keys_dl (a b : List Int) {k : Nat} (hk : k < 256) {n : List UInt8} {t : Int} (hn : (dealt (a.getD k 0) (b.getD k 0) k).name = n) (ht : (dealt (a.getD k 0) (b.getD k 0) k).typ = t) :
    keysOf (sets (dl a b (k + 1))) = if hasK (sets (dl a b k)) n t then keysOf (sets (dl a b k)) else keysOf (sets (dl a b k)) ++ [(n, t)] := by
  rw [sets_dl a b hk, keysOf_put, dealt_name, hn, ht]
theorem counts_dl (a b : List Int) {k : Nat} (hk : k < 256) {n : List UInt8} {t : Int} (hn : (dealt (a.getD k 0) (b.getD k 0) k).name = n) (ht : (dealt (a.getD k 0) (b.getD k 0) k).typ = t) :
    countsOf (sets (dl a b (k + 1))) = (if hasK (sets (dl a b k)) n t then countsOf (sets (dl a b k)) else countsOf (sets (dl a b k)) ++ [0]).modify (atK (sets (dl a b k)) n t) (· + 1) := by
  rw [sets_dl a b hk, countsOf_put, dealt_name, hn, ht]
theorem asc_dl (a b : List Int) (k : Nat) (hk : k ≤ 256) : (dl a b k).Pairwise fun x y => ∃ i j, i < j ∧ j < 256 ∧ x.data = [UInt8.ofNat i] ∧ y.data = [UInt8.ofNat j] := by
  unfold dl
  rw [List.pairwise_map]
  refine (List.pairwise_lt_range (n := k)).imp_of_mem ?_
  intro i j _ hj h
  exact ⟨i, j, h, by have := List.mem_range.1 hj; omega, rfl, rfl⟩
theorem asc_at {a b : List Int} {k : Nat} (hk : k ≤ 256) {g : Gr} (hg : g ∈ sets (dl a b k)) {q : Nat} (h0 : 0 < q) (h : q < g.rrs.length) : ∃ i j, i < j ∧ j < 256 ∧ (g.rrs[q - 1]'(by omega)).data = [UInt8.ofNat i] ∧ g.rrs[q].data = [UInt8.ofNat j] := by
  have := (asc_dl a b k hk).sublist (sub_sets _ g hg)
  exact List.pairwise_iff_getElem.1 this (q - 1) q (by omega) h (by omega)
end Mt
end Go.Proofs.Ytdodamkndigjkaa

/- An argument that is a slice of numbers, opened. -/
set_option maxRecDepth 100000
namespace Go.Proofs.Ytdodamkndigjkaa
open Go.ChangeShapes Go.WideShapes Go.ChangeAt Go.RowKit
theorem arg_ints {H : Type} {enc : TypeId × Value → H} {W : World} {b0 : Nat} {v : Value} {d : DataW H} {ps : List MemPlace} (hval : Value.okWide Try.prog W .any b0 47 v) (hd : DataW.Trod enc Try.prog W 0 (fun _ => true) true 47 v d ps) :
    ∃ zs : List Int, ReadI v zs W ∧ (∀ z ∈ zs, -9223372036854775808 ≤ z ∧ z ≤ 9223372036854775807) ∧ zs.length ≤ maxLen := by
  obtain ⟨a0, len, cap, rfl⟩ := okWide_slice Try.underlying47 hval
  obtain ⟨fuel, hf⟩ := hd
  rcases open_ints Try.underlying47 Try.underlying3 (by kernel_rfl) hf with ⟨hcs, _⟩ | ⟨a, len', cap', zs, hcs, _, hle, hmax, hall, _, hc, hw⟩
  · simp [Value.cells] at hcs
    obtain ⟨rfl, rfl, rfl⟩ := hcs
    exact ⟨[], ⟨none, 0, rfl, fun j hj => by simp at hj⟩, by simp, Nat.zero_le _⟩
  · simp [Value.cells] at hcs
    obtain ⟨rfl, rfl, rfl⟩ := hcs
    simp only [if_true] at hall
    refine ⟨zs.take len, ⟨some a, cap, by rw [List.length_take]; congr 1; omega, fun j hj => ?_⟩, fun z hz => bounds_i64 (hw z (List.mem_of_mem_take hz)), by rw [List.length_take]; omega⟩
    rw [List.length_take] at hj
    obtain ⟨b, off, rfl, hcc⟩ := ints_at hc (by omega)
    refine ⟨b, off, rfl, ?_⟩
    rw [hcc j (by omega), List.getElem_take, List.getD_eq_getElem?_getD, List.getElem?_eq_getElem (by omega)]
    rfl
end Go.Proofs.Ytdodamkndigjkaa

/- MatchOrder of freshetlaw5. -/
set_option maxRecDepth 100000
namespace Go.Proofs.Ytdodamkndigjkaa
open Go.RowKit Go.Shelf Go.Maps Go.ChangeShapes Go.WideShapes Go.ChangeAt
attribute [local go_sem] Oper.semAt_some
def encKy (p : List UInt8 × Int) : List Value := [.string ⟨p.1.toArray⟩, .int .i64 p.2]
theorem encKy_len (p : List UInt8 × Int) : (encKy p).length = 2 := rfl
theorem encKy_one (p : List UInt8 × Int) : ∀ u ∈ encKy p, u.oneCell' = true := fun u hu => by
  simp only [encKy, List.mem_cons, List.not_mem_nil, or_false] at hu
  rcases hu with rfl | rfl <;> rfl
theorem infoKy : (Try.prog.info? 53).map (fun i => (i.zero, i.size, i.bytes)) = some (some (.agg #[.string ⟨#[]⟩, .int .i64 0]), 2, 24) := by kernel_rfl
def encN (n : Nat) : List Value := [.int .i64 (n : Int)]
theorem encN_len (n : Nat) : (encN n).length = 1 := rfl
theorem encN_one (n : Nat) : ∀ u ∈ encN n, u.oneCell' = true := fun u hu => by
  simp only [encN, List.mem_cons, List.not_mem_nil, or_false] at hu
  rcases hu with rfl; rfl
theorem infoN : (Try.prog.info? 3).map (fun i => (i.zero, i.size, i.bytes)) = some (some (.int .i64 0), 1, 8) := by kernel_rfl
/-- A number of an owned row is changed. -/
theorem ownN_set {base G n cap : Nat} {l : List Nat} {W : World} (h : OwnK encN 1 3 base (.slice (some ⟨G, 0, none⟩) n cap) l W) {i : Nat} (hi : i < l.length) : OwnK encN 1 3 base (.slice (some ⟨G, 0, none⟩) n cap) (l.modify i (· + 1)) (W.setCell ⟨G, i, none⟩ (.int .i64 ((l[i] + 1 : Nat) : Int))) := by
  obtain rfl := (ownK_cap h).1
  have hst := World.ownsRow.stored h i (.int .i64 ((l[i] + 1 : Nat) : Int))
  have e : (l.flatMap encN).set i (.int .i64 ((l[i] + 1 : Nat) : Int)) = (l.modify i (· + 1)).flatMap encN := by
    have hf : ∀ l : List Nat, l.flatMap encN = l.map fun n => .int .i64 (n : Int) := by
      intro l
      induction l with
      | nil => rfl
      | cons x l ih => rw [List.flatMap_cons, ih]; rfl
    rw [hf, hf]
    refine List.ext_getElem? fun j => ?_
    rw [List.getElem?_set, List.getElem?_map, List.getElem?_map, List.getElem?_modify]
    by_cases e : i = j
    · subst e
      rw [if_pos rfl, if_pos (by rw [List.length_map]; exact hi), List.getElem?_eq_getElem hi]
      simp
    · rw [if_neg e]
      cases l[j]? <;> simp [e]
  have := hst.1
  rw [e] at this
  unfold OwnK
  rw [List.length_modify]
  exact this
/-- What lies in memory when k records were dealt. -/
structure OrSt (w : World) (a b : List Int) (k : Nat) (v5 v6 v7 : Value) (W : World) : Prop where
  rr : OwnK encRR 5 51 w.heap.size v5 (Mt.dl a b k) W
  ks : OwnK encKy 2 53 w.heap.size v6 (Mt.keysOf (Mt.sets (Mt.dl a b k))) W
  cs : OwnK encN 1 3 w.heap.size v7 (Mt.countsOf (Mt.sets (Mt.dl a b k))) W
  bel : Below w.heap.size w W
theorem orSt_end {w W : World} {a b : List Int} {k G n cap ix : Nat} {v5 v6 : Value} {K : List (List UInt8 × Int)} {C : List Nat} (hrr : OwnK encRR 5 51 w.heap.size v5 (Mt.dl a b (k + 1)) W) (hks : OwnK encKy 2 53 w.heap.size v6 K W) (hcs : OwnK encN 1 3 w.heap.size (.slice (some ⟨G, 0, none⟩) n cap) C W) (hb : Below w.heap.size w W) (hi : ix < C.length)
    (eK : Mt.keysOf (Mt.sets (Mt.dl a b (k + 1))) = K) (eC : Mt.countsOf (Mt.sets (Mt.dl a b (k + 1))) = C.modify ix (· + 1)) : OrSt w a b (k + 1) v5 v6 (.slice (some ⟨G, 0, none⟩) n cap) (W.setCell ⟨G, ix, none⟩ (.int .i64 ((C[ix] : Int) + 1))) := by
  have hg := grown_st W G ix (.int .i64 ((C[ix] : Int) + 1))
  have hG := World.ownsRow.lt hcs G rfl
  refine ⟨ownK_grown hrr hg (fun g e1 e2 => own_apart hcs hrr (by decide) G rfl (by cases e2; exact e1)), ?_, ?_, hb.grown hg hb.size (fun j e => by cases e; exact hG.1)⟩
  · rw [eK]
    exact ownK_grown hks hg (fun g e1 e2 => own_apart hcs hks (by decide) G rfl (by cases e2; exact e1))
  · rw [eC]
    exact ownN_set hcs hi
theorem counts_le (a b : List Int) (k : Nat) : ∀ c ∈ Mt.countsOf (Mt.sets (Mt.dl a b k)), c ≤ k := by
  intro c hc
  unfold Mt.countsOf at hc
  rw [List.mem_map] at hc
  obtain ⟨g, hg, rfl⟩ := hc
  have := Mt.rrs_len _ g hg
  rwa [Mt.dl_len] at this
set_option maxHeartbeats 16000000 in
theorem morder_any (a b : List Int) (va vb : Value) (w : World) (ha : ReadI va a w) (hb : ReadI vb b w) (hza : ∀ z ∈ a, -9223372036854775808 ≤ z ∧ z ≤ 9223372036854775807) (hzb : ∀ z ∈ b, -9223372036854775808 ≤ z ∧ z ≤ 9223372036854775807) :
    Calls Try.prog 5 #[va, vb] w fun e w' => e = .returned (.bool true) ∧ Below w.heap.size w w' := by
  obtain ⟨aa, ca, rfl, hca⟩ := ha.form
  obtain ⟨ab, cb, rfl, hcb⟩ := hb.form
  have HAW := Lib.hid mawake_any
  have HCA := Lib.hid hca
  have HCB := Lib.hid hcb
  have HZA := Lib.hid hza
  have HZB := Lib.hid hzb
  clear ha hb hca hcb hza hzb
  by_cases hbig : a.length > 20 ∨ b.length < a.length ∨ b.length > 40
  · by_cases h1 : a.length > 20
    · have g1 : (20 : Int) < (a.length : Int) := by omega
      clear h1 hbig
      go_enter Try.func5, Try.ntmps5
      go_wp2_with fail
      refine (HAW.out _).mono ?_
      rintro e w9 ⟨rfl, b9⟩
      go_wp2_with fail
      go_ret
      exact ⟨rfl, b9⟩
    · by_cases h2 : b.length < a.length
      · have g1 : ¬ (20 : Int) < (a.length : Int) := by omega
        have g2 : (b.length : Int) < (a.length : Int) := by omega
        clear h1 h2 hbig
        go_enter Try.func5, Try.ntmps5
        go_wp2_with fail
        refine (HAW.out _).mono ?_
        rintro e w9 ⟨rfl, b9⟩
        go_wp2_with fail
        go_ret
        exact ⟨rfl, b9⟩
      · have g1 : ¬ (20 : Int) < (a.length : Int) := by omega
        have g2 : ¬ (b.length : Int) < (a.length : Int) := by omega
        have g3 : (40 : Int) < (b.length : Int) := by omega
        clear h1 h2 hbig
        go_enter Try.func5, Try.ntmps5
        go_wp2_with fail
        refine (HAW.out _).mono ?_
        rintro e w9 ⟨rfl, b9⟩
        go_wp2_with fail
        go_ret
        exact ⟨rfl, b9⟩
  have g1 : ¬ (20 : Int) < (a.length : Int) := by omega
  have g2 : ¬ (b.length : Int) < (a.length : Int) := by omega
  have g3 : ¬ (40 : Int) < (b.length : Int) := by omega
  have g1n : a.length ≤ 20 := by omega
  have g2n : a.length ≤ b.length := by omega
  clear hbig
  go_enter Try.func5, Try.ntmps5
  go_wp2_with fail
  go_loopw [5, 6, 7, 8] (fun v5 v6 v7 i wr => ∃ k : Nat, i = .int .i64 (k : Int) ∧ k ≤ a.length ∧ OrSt w a b k v5 v6 v7 wr) (fun _ _ _ i _ => a.length + 1 - (intOf i).toNat)
  case atStart => exact ⟨0, rfl, by omega, ⟨ownK_nil _ _ _ _ _, ownK_nil _ _ _ _ _, ownK_nil _ _ _ _ _, Below.refl _ w⟩⟩
  case round =>
    obtain ⟨k, rfl, hk, hst⟩ := hrel
    have hwr := hst.bel.size
    by_cases hlt : k < a.length
    · obtain ⟨ga, oa, rfl, x0⟩ := HCA.out k hlt
      have hlb : k < b.length := by omega
      obtain ⟨gb, ob, rfl, y0⟩ := HCB.out k hlb
      have hga : ga < w.heap.size := cell_lt x0
      have hgb : gb < w.heap.size := cell_lt y0
      replace x0 := (hst.bel.cell (p := ⟨ga, oa + k, none⟩) hga).trans x0
      replace y0 := (hst.bel.cell (p := ⟨gb, ob + k, none⟩) hgb).trans y0
      have hzk := HZA.out a[k] (List.getElem_mem hlt)
      have hyk := HZB.out b[k] (List.getElem_mem hlb)
      have hDa : a.getD k 0 = a[k] := by rw [List.getD_eq_getElem?_getD, List.getElem?_eq_getElem hlt]; rfl
      have hDb : b.getD k 0 = b[k] := by rw [List.getD_eq_getElem?_getD, List.getElem?_eq_getElem hlb]; rfl
      have R1 := Lib.hid (fun W => round_any a[k] 4 W (by decide) (by decide) hzk.1 hzk.2)
      have R2 := Lib.hid (fun W => round_any b[k] 2 W (by decide) (by decide) hyk.1 hyk.2)
      have hB1 := roundI_bounds a[k] 4 (by decide)
      have hB2 := roundI_bounds b[k] 2 (by decide)
      have hdn : (Mt.dealt (a.getD k 0) (b.getD k 0) k).name = [1, UInt8.ofNat (97 + (roundI a[k] 4).toNat), 0] := by rw [hDa]; rfl
      have hdt : (Mt.dealt (a.getD k 0) (b.getD k 0) k).typ = 99 + roundI b[k] 2 := by rw [hDb]; rfl
      have hdd : (Mt.dealt (a.getD k 0) (b.getD k 0) k) = ⟨[1, UInt8.ofNat (97 + (roundI a[k] 4).toNat), 0], 99 + roundI b[k] 2, 1, 0, [UInt8.ofNat k]⟩ := by rw [hDa, hDb]; rfl
      have hkk := Mt.keys_dl a b (k := k) (by omega) hdn hdt
      have hcc := Mt.counts_dl a b (k := k) (by omega) hdn hdt
      have hdl := Mt.dl_succ a b k
      rw [hdd] at hdl
      obtain ⟨p, hp⟩ : ∃ p, a[k] = p := ⟨_, rfl⟩
      obtain ⟨q, hq⟩ : ∃ q, b[k] = q := ⟨_, rfl⟩
      rw [hp] at x0 R1 hB1 hkk hcc hdl
      rw [hq] at y0 R2 hB2 hkk hcc hdl
      obtain ⟨r1, hr1⟩ : ∃ r, roundI p 4 = r := ⟨_, rfl⟩
      obtain ⟨r2, hr2⟩ : ∃ r, roundI q 2 = r := ⟨_, rfl⟩
      rw [hr1] at R1 hB1 hkk hcc hdl
      rw [hr2] at R2 hB2 hkk hcc hdl
      obtain ⟨c, hc⟩ : ∃ c, UInt8.ofNat (97 + r1.toNat) = c := ⟨_, rfl⟩
      have hcv : (c.toNat : Int) = 97 + r1 := by rw [← hc]; simp; omega
      obtain ⟨y, hy⟩ : ∃ y, UInt8.ofNat k = y := ⟨_, rfl⟩
      have hyv : (y.toNat : Int) = (k : Int) := by rw [← hy]; simp; omega
      rw [hc] at hkk hcc hdl
      rw [hy] at hdl
      have HKK := Lib.hid hkk
      have HCC := Lib.hid hcc
      have HDL := Lib.hid hdl
      obtain ⟨hRR, hKS, hCS, hBW⟩ := hst
      have HRR := Lib.hid hRR
      have HKS := Lib.hid hKS
      have HCS := Lib.hid hCS
      have HBW := Lib.hid hBW
      clear hkk hcc hdl hdn hdt hdd hDa hDb hp hq hr1 hr2 hc hy hRR hKS hCS hBW hzk hyk
      have e1 : IntKind.u8.wrap (97 + r1) = (c.toNat : Int) := by rw [hcv, IntKind.wrap_u8]; omega
      have e2 : IntKind.u8.wrap (k : Int) = (y.toNat : Int) := by rw [hyv, IntKind.wrap_u8]; omega
      have q1 : (convert 22 9 (.slice (some ⟨wr.heap.size, 0, none⟩) 1 1)).run Try.prog (wr.alloc (.cells #[.int .u8 (97 + r1)] 5)) = .ok (.string ⟨#[c]⟩) (wr.alloc (.cells #[.int .u8 (97 + r1)] 5)) := run_lit_str [c] [.int .u8 (97 + r1)] (by simp [encB, hcv]) wr
      have ap1 : (⟨#[1]⟩ : ByteArray) ++ ⟨#[c]⟩ = ⟨#[1, c]⟩ := app_bytes [1] [c]
      have ap2 : (⟨#[1, c]⟩ : ByteArray) ++ ⟨#[0]⟩ = ⟨#[1, c, 0]⟩ := app_bytes [1, c] [0]
      go_wp2_with fail
      refine (R1.out _).mono ?_
      rintro e w1 ⟨rfl, rfl⟩
      have bY0 := ((Below.refl wr.heap.size wr).alloc (Nat.le_refl _) (.cells #[.int .u8 (97 + r1)] 5))
      replace y0 := keep_cell bY0 y0
      go_wp2_with fail
      refine (R2.out _).mono ?_
      rintro e w1 ⟨rfl, rfl⟩
      have bY := ((Below.refl wr.heap.size wr).alloc (Nat.le_refl _) (.cells #[.int .u8 (97 + r1)] 5))
      have hR1 := Lib.hid (ownK_below HRR.out bY)
      have hK1 := Lib.hid (ownK_below HKS.out bY)
      have hC1 := Lib.hid (ownK_below HCS.out bY)
      have hB1 := Lib.hid (below_trans HBW.out bY)
      obtain ⟨wz, hwz⟩ : ∃ z, wr.alloc (.cells #[.int .u8 (97 + r1)] 5) = z := ⟨_, rfl⟩
      rw [hwz] at hR1 hK1 hC1 hB1 ⊢
      clear hwz bY q1 HRR HKS HCS HBW ap1 ap2 e1 x0
      have q2 : (convert 22 9 (.slice (some ⟨wz.heap.size, 0, none⟩) 1 1)).run Try.prog (wz.alloc (.cells #[.int .u8 (k : Int)] 5)) = .ok (.string ⟨#[y]⟩) (wz.alloc (.cells #[.int .u8 (k : Int)] 5)) := run_lit_str [y] [.int .u8 (k : Int)] (by simp [encB, hyv]) wz
      have hsz := hB1.out.size
      go_wp2_with (first
        | go_loud (at_builtin; refine wpList_apk _ rfl _ _ 25 rfl encRR 5 encRR_len (by omega) encRR_one w.heap.size 51 _ 56 Try.underlying25 infoRR rfl _ (Mt.dl a b k) rfl (ownK_alloc (ownK_alloc hR1.out _) _) ⟨_, 0, none⟩ 1 1 [⟨[1, c, 0], 99 + r2, 1, 0, [y]⟩] rfl rfl (infoOne (enc := encRR) ⟨[1, c, 0], 99 + r2, 1, 0, [y]⟩ _ _ _ (blk_at1 _ _ _ _)) (by rw [Mt.dl_len]; omega) (by omega) (by simp; omega) ?_; intro v5 w2 ho5 hg5 _; refine Hid.out ?_))
      refine Lib.hid ?_
      have bC := ((Below.refl wz.heap.size wz).alloc (Nat.le_refl _) (.cells #[.int .u8 (k : Int)] 5)).alloc (by simp) (.cells #[.string ⟨#[1, c, 0]⟩, .int .i64 (99 + r2), .int .i64 1, .int .i64 0, .string ⟨#[y]⟩] 51)
      have hR0 := ownK_below hR1.out bC
      have HR2 : Hid (OwnK encRR 5 51 w.heap.size v5 (Mt.dl a b (k + 1)) w2) := Lib.hid (by rw [HDL.out]; exact ho5)
      have HK2 := Lib.hid (ownK_grown (ownK_below hK1.out bC) hg5 (fun g e1 e2 => own_apart hR0 (ownK_below hK1.out bC) (by decide) g e2 e1))
      have HC2 := Lib.hid (ownK_grown (ownK_below hC1.out bC) hg5 (fun g e1 e2 => own_apart hR0 (ownK_below hC1.out bC) (by decide) g e2 e1))
      have HB2 : Hid (Below w.heap.size w w2) := Lib.hid ((hB1.out.trans (bC.mono hsz)).grown hg5 (by simp; omega) (fun j e => (World.ownsRow.lt hR0 j e).1))
      clear hR1 hK1 hC1 hB1 hR0 ho5 hg5 bC q2 y0 hsz HDL hyv e2
      have hs2 := HB2.out.size
      obtain ⟨gs, hgs⟩ : ∃ gs, Mt.sets (Mt.dl a b k) = gs := ⟨_, rfl⟩
      have hok := Mt.ok_sets (Mt.dl a b k)
      have hcle := counts_le a b k
      have hgl : gs.length ≤ k := by have := Mt.sets_len (Mt.dl a b k); rw [Mt.dl_len, hgs] at this; exact this
      rw [hgs] at HK2 HC2 HKK HCC hok hcle
      have HOK := Lib.hid hok
      obtain ⟨KS, hKS⟩ : ∃ K, Mt.keysOf gs = K := ⟨_, rfl⟩
      obtain ⟨CS, hCS⟩ : ∃ K, Mt.countsOf gs = K := ⟨_, rfl⟩
      have hkl : KS.length = gs.length := by rw [← hKS]; simp [Mt.keysOf]
      have hcl : CS.length = gs.length := by rw [← hCS]; simp [Mt.countsOf]
      have hkat : ∀ j (h : j < KS.length) (h2 : j < gs.length), KS[j] = (gs[j].name, gs[j].typ) := fun j h h2 => by simp only [← hKS, Mt.keysOf, List.getElem_map]
      have HKAT := Lib.hid hkat
      rw [hKS] at HK2 HKK
      rw [hCS] at HC2 HCC hcle
      have HCLE := Lib.hid hcle
      obtain ⟨ao6, cap6, rfl, hao6⟩ := ownK_form HK2.out
      obtain ⟨ao7, cap7, rfl, hao7⟩ := ownK_form HC2.out
      have HKL := Lib.hid hkl
      have HCL := Lib.hid hcl
      clear hgs hok hKS hCS hkat hcle hkl hcl
      go_wp2_with fail
      go_loopw [11, 12] (fun at' j wi => ∃ i : Nat, j = .int .i64 (i : Int) ∧ i ≤ KS.length ∧ at' = .int .i64 (Mt.lastK gs [1, c, 0] (99 + r2) i) ∧ Below w2.heap.size w2 wi) (fun _ j _ => KS.length + 1 - (intOf j).toNat)
      case atStart => exact ⟨0, rfl, by omega, rfl, Below.refl _ _⟩
      case round =>
        obtain ⟨i, rfl, hi, rfl, hbi⟩ := hrel
        by_cases hil : i < KS.length
        · obtain ⟨G6, rfl⟩ := hao6 (fun e => by rw [e] at hil; simp at hil)
          have hig : i < gs.length := by have := HKL.out; omega
          have z0 := ownK_cell encKy_len HK2.out hil (i := 0) (by omega)
          have z1 := ownK_cell encKy_len HK2.out hil (i := 1) (by omega)
          rw [show (encKy KS[i])[0]? = some (.string ⟨KS[i].1.toArray⟩) from rfl] at z0
          rw [show (encKy KS[i])[1]? = some (.int .i64 KS[i].2) from rfl] at z1
          simp only [Nat.zero_add, Nat.add_zero] at z0 z1
          replace z0 := keep_cell hbi z0
          replace z1 := keep_cell hbi z1
          have hcap6 := (ownK_cap HK2.out).2.1
          have hnm := HKAT.out i hil hig
          obtain ⟨⟨n1, t1⟩, hn1⟩ : ∃ z, KS[i] = z := ⟨_, rfl⟩
          rw [hn1] at z0 z1 hnm
          injection hnm with hm1 hm2
          have HEQ := fun W => kEql W n1 [1, c, 0] t1 (99 + r2)
          obtain ⟨u, hu⟩ : ∃ u, decide (n1 = [1, c, 0] ∧ t1 = 99 + r2) = u := ⟨_, rfl⟩
          rw [hu] at HEQ
          have hisK : Mt.isK [1, c, 0] (99 + r2) gs[i] = u := by unfold Mt.isK; rw [← hm1, ← hm2]; exact hu
          have HNX : Hid (Mt.lastK gs [1, c, 0] (99 + r2) (i + 1) = if u then (i : Int) else Mt.lastK gs [1, c, 0] (99 + r2) i) := Lib.hid (by
            cases u
            · exact Mt.lastK_no hig hisK
            · exact Mt.lastK_yes HOK.out.apart hig hisK)
          clear hu hisK hm1 hm2 hn1
          obtain ⟨l0, hl0⟩ : ∃ z, Mt.lastK gs [1, c, 0] (99 + r2) i = z := ⟨_, rfl⟩
          rw [hl0] at HNX ⊢
          have HB := Lib.hid hbi
          clear hl0 hbi
          cases u
          · go_wp2_with fail
            go_roundw
            case rel => exact ⟨i + 1, by go_num, by omega, by rw [HNX.out]; rfl, by first | exact HB.out | exact HB.out.drew | exact below_drewN HB.out _⟩
            case measure => simp [intOf]; omega
          · go_wp2_with fail
            go_roundw
            case rel => exact ⟨i + 1, by go_num, by omega, by rw [HNX.out]; rfl, by first | exact HB.out | exact HB.out.drew | exact below_drewN HB.out _⟩
            case measure => simp [intOf]; omega
        · obtain rfl : i = KS.length := by omega
          have HR3 := Lib.hid (ownK_below HR2.out hbi)
          have HK3 := Lib.hid (ownK_below HK2.out hbi)
          have HC3 := Lib.hid (ownK_below HC2.out hbi)
          have HB3 := Lib.hid (below_trans HB2.out hbi)
          have hs3 := HB3.out.size
          have hlast := Mt.lastK_all gs [1, c, 0] (99 + r2)
          rw [← HKL.out] at hlast
          obtain ⟨u, hu⟩ : ∃ u, Mt.hasK gs [1, c, 0] (99 + r2) = u := ⟨_, rfl⟩
          rw [hu] at hlast HKK HCC
          have HU := Lib.hid hu
          clear hu hbi HR2 HK2 HC2 HB2 hs2 HKAT
          cases u with
          | true =>
            have hat := Mt.atK_has HU.out
            rw [if_pos rfl] at hlast
            obtain ⟨ix, hix⟩ : ∃ ix, Mt.atK gs [1, c, 0] (99 + r2) = ix := ⟨_, rfl⟩
            rw [hix] at hat hlast HCC
            have hixC : ix < CS.length := by have := HCL.out; omega
            obtain ⟨G7, rfl⟩ := hao7 (fun e => by rw [e] at hixC; simp at hixC)
            have z7 := ownK_cell encN_len HC3.out hixC (i := 0) (by omega)
            rw [show (encN CS[ix])[0]? = some (.int .i64 (CS[ix] : Int)) from rfl] at z7
            simp only [Nat.zero_add, Nat.add_zero, Nat.mul_one] at z7
            have f7 := World.ownsRow.frozenAt HC3.out ix
            have hcap7 := (ownK_cap HC3.out).2.1
            rw [hlast]
            have hcb : (CS[ix] : Int) ≤ 100 := by have := HCLE.out CS[ix] (List.getElem_mem hixC); omega
            rw [if_pos rfl] at HKK HCC
            clear hlast hix
            obtain ⟨cv, hcv2⟩ : ∃ z, CS[ix] = z := ⟨_, rfl⟩
            rw [hcv2] at z7 hcb
            have HCV := Lib.hid hcv2
            clear hcv2
            go_wp2_with fail
            go_roundw
            case rel => exact ⟨k + 1, by go_num, by omega, by rw [← HCV.out]; exact orSt_end HR3.out HK3.out HC3.out HB3.out hixC HKK.out HCC.out⟩
            case measure => simp [intOf]; omega
          | false =>
            rw [if_neg (by simp)] at hlast
            rw [hlast]
            clear hlast
            rw [if_neg (by simp)] at HKK HCC
            have hat := Mt.atK_not HU.out
            rw [hat] at HCC
            have hkl2 : KS.length ≤ 20 := by have := HKL.out; omega
            have hcl2 : CS.length ≤ 20 := by have := HCL.out; omega
            clear hao6 hao7 hat
            go_wp2_with (first
              | go_loud (at_builtin; refine wpList_apk _ rfl _ _ 48 rfl encKy 2 encKy_len (by omega) encKy_one w.heap.size 53 _ 24 Try.underlying48 infoKy rfl _ KS rfl (ownK_alloc HK3.out _) ⟨_, 0, none⟩ 1 1 [([1, c, 0], 99 + r2)] rfl rfl (infoOne (enc := encKy) ([1, c, 0], 99 + r2) _ _ _ (Block.new _ _ _)) (by omega) (by omega) (by simp; omega) ?_; intro v6 w4 ho6 hg6 _; refine Hid.out ?_))
            refine Lib.hid ?_
            have bD := (Below.refl wr.heap.size wr).alloc (Nat.le_refl _) (.cells #[.string ⟨#[1, c, 0]⟩, .int .i64 (99 + r2)] 53)
            have hK0 := ownK_below HK3.out bD
            have HK4 := Lib.hid ho6
            have HR4 := Lib.hid (ownK_grown (ownK_below HR3.out bD) hg6 (fun g e1 e2 => own_apart hK0 (ownK_below HR3.out bD) (by decide) g e2 e1))
            have HC4 := Lib.hid (ownK_grown (ownK_below HC3.out bD) hg6 (fun g e1 e2 => own_apart hK0 (ownK_below HC3.out bD) (by decide) g e2 e1))
            have HB4 : Hid (Below w.heap.size w w4) := Lib.hid ((HB3.out.trans (bD.mono hs3)).grown hg6 (by simp; omega) (fun j e => (World.ownsRow.lt hK0 j e).1))
            clear HR3 HK3 HC3 HB3 hK0 ho6 hg6 bD hs3
            have hs4 := HB4.out.size
            obtain ⟨ao8, cap8, rfl, hao8⟩ := ownK_form HK4.out
            have hl8 : (KS ++ [([1, c, 0], 99 + r2)]).length = KS.length + 1 := by simp
            go_wp2_with (first
              | go_loud (at_builtin; refine wpList_apk _ rfl _ _ 47 rfl encN 1 encN_len (by omega) encN_one w.heap.size 3 _ 8 Try.underlying47 infoN rfl _ CS rfl (ownK_alloc HC4.out _) ⟨_, 0, none⟩ 1 1 [0] rfl rfl (infoOne (enc := encN) 0 _ _ _ (Block.new _ _ _)) (by omega) (by omega) (by simp; omega) ?_; intro v7 w5 ho7 hg7 _; refine Hid.out ?_))
            refine Lib.hid ?_
            have bE := (Below.refl w4.heap.size w4).alloc (Nat.le_refl _) (.cells #[.int .i64 0] 3)
            have hC0 := ownK_below HC4.out bE
            have HC5 := Lib.hid ho7
            have HR5 := Lib.hid (ownK_grown (ownK_below HR4.out bE) hg7 (fun g e1 e2 => own_apart hC0 (ownK_below HR4.out bE) (by decide) g e2 e1))
            have HK5 := Lib.hid (ownK_grown (ownK_below HK4.out bE) hg7 (fun g e1 e2 => own_apart hC0 (ownK_below HK4.out bE) (by decide) g e2 e1))
            have HB5 : Hid (Below w.heap.size w w5) := Lib.hid ((HB4.out.trans (bE.mono hs4)).grown hg7 (by simp; omega) (fun j e => (World.ownsRow.lt hC0 j e).1))
            clear HR4 HK4 HC4 HB4 hC0 ho7 hg7 bE hs4 hao8
            obtain ⟨CT, ix, hCT, hix, hixC, hnew, hlT⟩ : ∃ (CT : List Nat) (ix : Nat), CT = CS ++ [0] ∧ ix = KS.length ∧ ∃ h : ix < CT.length, CT[ix] = 0 ∧ CT.length ≤ 21 := ⟨_, _, rfl, rfl, by have := HKL.out; have := HCL.out; simp; omega, by have h1 := HKL.out; have h2 := HCL.out; simp [List.getElem_append_right, show CS.length ≤ KS.length by omega], by simp; omega⟩
            rw [← hCT] at HC5 HCC
            have hix1 : IntKind.i64.wrap (((KS.length + 1 : Nat) : Int) - 1) = (ix : Int) := by rw [IntWalk.i64_in _ (by omega)]; omega
            have hix2 : IntKind.i64.wrap ((KS.length : Int) + 1 - 1) = (ix : Int) := by rw [IntWalk.i64_in _ (by omega)]; omega
            have hix3 : (KS.length : Int) + 1 - 1 = (ix : Int) := by omega
            have HGC : Hid (gs.length = ix) := Lib.hid (by have := HKL.out; omega)
            rw [HGC.out] at HCC
            obtain ⟨ao9, cap9, rfl, hao9⟩ := ownK_form HC5.out
            obtain ⟨G7, rfl⟩ := hao9 (fun e => by rw [e] at hixC; simp at hixC)
            have z7 := ownK_cell encN_len HC5.out hixC (i := 0) (by omega)
            rw [show (encN CT[ix])[0]? = some (.int .i64 (CT[ix] : Int)) from rfl, hnew] at z7
            simp only [Nat.zero_add, Nat.add_zero, Nat.mul_one] at z7
            have f7 := World.ownsRow.frozenAt HC5.out ix
            have hcap7 := (ownK_cap HC5.out).2.1
            have hixi : (ix : Int) < (CT.length : Int) := by omega
            clear hao9 hCT hix hkl2 hcl2
            go_wp2_with fail
            go_roundw
            case rel =>
              have hend := orSt_end HR5.out HK5.out HC5.out HB5.out hixC HKK.out HCC.out
              rw [hnew, hl8] at hend
              exact ⟨k + 1, by go_num, by omega, hend⟩
            case measure => simp [intOf]; omega
    · obtain rfl : k = a.length := by omega
      have hfin : ∀ x ∈ Mt.dl a b a.length, Fine x := fun x hx => by
        obtain ⟨j, hj, rfl⟩ := Mt.mem_dl hx
        have h2 := roundI_bounds (b.getD j 0) 2 (by decide)
        unfold Mt.dealt
        exact ⟨by simp, by simp, by simp only; omega, by simp, by simp⟩
      have hsz := hst.bel.size
      have GR := Lib.hid (groups_any (Mt.dl a b a.length) (-1) _ wr (readR_own hst.rr) hfin (by rw [Mt.dl_len]; omega) (by omega))
      obtain ⟨ao6, cap6, rfl, hao6⟩ := ownK_form hst.ks
      obtain ⟨ao7, cap7, rfl, hao7⟩ := ownK_form hst.cs
      have HST := Lib.hid hst
      clear hst hfin
      go_wp2_with fail
      refine GR.out.mono ?_
      rintro e w2 ⟨v, L, rfl, hG, hm, b2⟩
      rw [show mostOf (Mt.sets (Mt.dl a b a.length)) (-1) = Mt.sets (Mt.dl a b a.length) from by unfold mostOf; rw [if_neg (by omega)]] at hm
      have HK := Lib.hid (ownK_below HST.out.ks b2)
      have HC := Lib.hid (ownK_below HST.out.cs b2)
      have HB := Lib.hid (HST.out.bel.trans (b2.mono hsz))
      have HG := Lib.hid hG.read
      obtain ⟨aoL, capL, rfl, _⟩ := ownK_form hG.row
      have hcapL := (ownK_cap hG.row).2.1
      have hgl : (Mt.sets (Mt.dl a b a.length)).length ≤ 20 := by have := Mt.sets_len (Mt.dl a b a.length); rw [Mt.dl_len] at this; omega
      have hasc := fun g (hg : g ∈ Mt.sets (Mt.dl a b a.length)) q h0 h => Mt.asc_at (a := a) (b := b) (k := a.length) (by omega) (g := g) hg (q := q) h0 h
      have hok := Mt.ok_sets (Mt.dl a b a.length)
      have hrl := Mt.rrs_len (Mt.dl a b a.length)
      rw [Mt.dl_len] at hrl
      obtain ⟨gs, hgs⟩ : ∃ gs, Mt.sets (Mt.dl a b a.length) = gs := ⟨_, rfl⟩
      rw [hgs] at hgl hasc hok hrl hm HK HC ⊢
      have hLg : L.length = gs.length := by rw [← hm, List.length_map]
      obtain ⟨KS, hKS⟩ : ∃ K, Mt.keysOf gs = K := ⟨_, rfl⟩
      obtain ⟨CS, hCS⟩ : ∃ K, Mt.countsOf gs = K := ⟨_, rfl⟩
      have hkl : KS.length = L.length := by rw [← hKS, hLg]; simp [Mt.keysOf]
      have hcl : CS.length = L.length := by rw [← hCS, hLg]; simp [Mt.countsOf]
      have hgat : ∀ j (h : j < L.length) (h2 : j < gs.length), gs[j] = L[j].gr := fun j h h2 => by simp only [← hm, List.getElem_map]
      have hkat : ∀ j (h : j < L.length) (h2 : j < KS.length), KS[j] = (L[j].name, L[j].typ) := fun j h h2 => by
        have h3 : j < gs.length := by omega
        simp only [← hKS, Mt.keysOf, List.getElem_map]
        rw [hgat j h h3]; rfl
      have hcat : ∀ j (h : j < L.length) (h2 : j < CS.length), CS[j] = L[j].rrs.length := fun j h h2 => by
        have h3 : j < gs.length := by omega
        simp only [← hCS, Mt.countsOf, List.getElem_map]
        rw [hgat j h h3]; rfl
      have hful : ∀ j (h : j < L.length), 0 < L[j].rrs.length ∧ L[j].rrs.length ≤ 20 := fun j h => by
        have h3 : j < gs.length := by omega
        have hmem := List.getElem_mem h3
        have h4 := hok.full _ hmem
        have h5 := hrl _ hmem
        rw [hgat j h h3] at h4 h5
        exact ⟨List.length_pos_iff.2 h4, Nat.le_trans h5 g1n⟩
      have hasc2 : ∀ j (h : j < L.length) q (h0 : 0 < q) (h1 : q < L[j].rrs.length), ∃ i i2, i < i2 ∧ i2 < 256 ∧ (L[j].rrs[q - 1]?).map (·.data) = some [UInt8.ofNat i] ∧ (L[j].rrs[q]?).map (·.data) = some [UInt8.ofNat i2] := fun j h q h0 h1 => by
        have h3 : j < gs.length := by omega
        rw [List.getElem?_eq_getElem h1, List.getElem?_eq_getElem (show q - 1 < L[j].rrs.length by omega)]
        obtain ⟨i, i2, e1, e2, e3, e4⟩ := hasc L[j].gr (by rw [← hgat j h h3]; exact List.getElem_mem h3) q h0 h1
        exact ⟨i, i2, e1, e2, congrArg some e3, congrArg some e4⟩
      rw [hKS] at HK ⊢
      rw [hCS] at HC ⊢
      have HKAT := Lib.hid hkat
      have HCAT := Lib.hid hcat
      have HFUL := Lib.hid hful
      have HASC := Lib.hid hasc2
      have hLL : L.length ≤ 20 := by omega
      have hlen : ((L.length : Int) != (KS.length : Int)) = false := by rw [bne_eq_false_iff_eq]; omega
      have HKL := Lib.hid hkl
      have HCL := Lib.hid hcl
      clear hasc hok hrl hm hLg hKS hCS hgat hkat hcat hful hasc2 hgl hgs hG b2 hao6 hao7 GR HST hkl hcl
      go_wp2_with fail
      go_loopw [14] (fun j wi => ∃ i : Nat, j = .int .i64 (i : Int) ∧ i ≤ L.length ∧ Below w2.heap.size w2 wi) (fun j _ => L.length + 1 - (intOf j).toNat)
      case atStart => exact ⟨0, rfl, by omega, Below.refl _ _⟩
      case round =>
        obtain ⟨i, rfl, hi, hbi⟩ := hrel
        by_cases hil : i < L.length
        · have hik : i < KS.length := by have := HKL.out; omega
          have hic : i < CS.length := by have := HCL.out; omega
          have hsz2 := HB.out.size
          obtain ⟨gg, go, rfl, x0, x1, x2⟩ := gread_at HG.out hil
          have hE := HG.out.each i hil
          obtain ⟨ao2, cap2, hv2, _⟩ := hE.form
          obtain ⟨ao6, cap6', e6, hao6⟩ := ownK_form HK.out
          cases e6
          obtain ⟨G6, rfl⟩ := hao6 (fun e => by rw [e] at hik; simp at hik)
          obtain ⟨ao7, cap7', e7, hao7⟩ := ownK_form HC.out
          cases e7
          obtain ⟨G7, rfl⟩ := hao7 (fun e => by rw [e] at hic; simp at hic)
          have z0 := ownK_cell encKy_len HK.out hik (i := 0) (by omega)
          have z1 := ownK_cell encKy_len HK.out hik (i := 1) (by omega)
          rw [show (encKy KS[i])[0]? = some (.string ⟨KS[i].1.toArray⟩) from rfl, HKAT.out i hil hik] at z0
          rw [show (encKy KS[i])[1]? = some (.int .i64 KS[i].2) from rfl, HKAT.out i hil hik] at z1
          have z7 := ownK_cell encN_len HC.out hic (i := 0) (by omega)
          rw [show (encN CS[i])[0]? = some (.int .i64 (CS[i] : Int)) from rfl, HCAT.out i hil hic] at z7
          simp only [Nat.zero_add, Nat.add_zero, Nat.mul_one] at z0 z1 z7
          have hcap6 := (ownK_cap HK.out).2.1
          have hcap7 := (ownK_cap HC.out).2.1
          have hfu := HFUL.out i hil
          have has := HASC.out i hil
          rw [hv2] at x2 hE
          obtain ⟨n1, hn1⟩ : ∃ z, L[i].name = z := ⟨_, rfl⟩
          obtain ⟨t1, ht1⟩ : ∃ z, L[i].typ = z := ⟨_, rfl⟩
          obtain ⟨rr, hrr⟩ : ∃ z, L[i].rrs = z := ⟨_, rfl⟩
          simp only [hn1, ht1, hrr] at x0 x1 x2 z0 z1 z7 hfu has hE
          replace x0 := keep_cell hbi x0
          replace x1 := keep_cell hbi x1
          replace x2 := keep_cell hbi x2
          replace z0 := keep_cell hbi z0
          replace z1 := keep_cell hbi z1
          replace z7 := keep_cell hbi z7
          have HE := Lib.hid (readR_below hE hbi)
          have HAS := Lib.hid has
          have HBI := Lib.hid hbi
          have hrl20 := hfu.2
          have hrl0 := hfu.1
          have HNEQ := Lib.hid neq_k
          clear hE hv2 hao6 hao7 hn1 ht1 hrr has hbi hfu
          go_wp2_with fail
          refine wp_region_slots slotLe (slotPhi ((fun v _ => v = ?a113) :: (fun v _ => v = ?a114) :: (fun v _ => v = ?a115) :: (fun v _ => v = ?a116) :: (fun v _ => v = ?a117) :: (fun v _ => v = ?a118) :: (fun v _ => v = ?a119) :: (fun v _ => v = ?a120) :: (fun v _ => v = ?a121) :: (fun v _ => v = ?a122) :: (fun v _ => v = ?a123) :: (fun v _ => v = ?a124) :: (fun v _ => v = ?a125) :: (fun v _ => v = ?a126) :: (fun v _ => v = ?a127) :: (fun v _ => v = ?a128) :: (fun v _ => v = ?a129) :: (fun v _ => v = ?a130) :: (fun v _ => v = ?a131) :: (fun v _ => v = ?a132) :: (fun v _ => v = ?a133) :: (fun v _ => v = ?a134) :: (fun v _ => v = ?a135) :: [])) slotLe_refl slotLe_trans (slotPhi_stable ?stb) (by kernel_rfl) (by kernel_rfl) (by kernel_rfl) ?steps ?fin
          case stb =>
            refine ⟨by intro _ _ _ _ h; exact h, ?_⟩
            refine ⟨by intro _ _ _ _ h; exact h, ?_⟩
            refine ⟨by intro _ _ _ _ h; exact h, ?_⟩
            refine ⟨by intro _ _ _ _ h; exact h, ?_⟩
            refine ⟨by intro _ _ _ _ h; exact h, ?_⟩
            refine ⟨by intro _ _ _ _ h; exact h, ?_⟩
            refine ⟨by intro _ _ _ _ h; exact h, ?_⟩
            refine ⟨by intro _ _ _ _ h; exact h, ?_⟩
            refine ⟨by intro _ _ _ _ h; exact h, ?_⟩
            refine ⟨by intro _ _ _ _ h; exact h, ?_⟩
            refine ⟨by intro _ _ _ _ h; exact h, ?_⟩
            refine ⟨by intro _ _ _ _ h; exact h, ?_⟩
            refine ⟨by intro _ _ _ _ h; exact h, ?_⟩
            refine ⟨by intro _ _ _ _ h; exact h, ?_⟩
            refine ⟨by intro _ _ _ _ h; exact h, ?_⟩
            refine ⟨by intro _ _ _ _ h; exact h, ?_⟩
            refine ⟨by intro _ _ _ _ h; exact h, ?_⟩
            refine ⟨by intro _ _ _ _ h; exact h, ?_⟩
            refine ⟨by intro _ _ _ _ h; exact h, ?_⟩
            refine ⟨by intro _ _ _ _ h; exact h, ?_⟩
            refine ⟨by intro _ _ _ _ h; exact h, ?_⟩
            refine ⟨by intro _ _ _ _ h; exact h, ?_⟩
            refine ⟨by intro _ _ _ _ h; exact h, ?_⟩
            exact trivial
          case steps =>
            refine ⟨?_, ?_⟩
            · intro a W K N hK
              have e13 : a.tmps[13]?.getD undef = .slice (some ⟨gg, go, none⟩) L.length capL := N.was' 13 _ (by kernel_rfl) rfl
              rw [if_pos (wanted_no rfl)]
              go_simp
              refine hK _ _ (slotLe_refl _) ?_
              exact rfl
            refine ⟨?_, ?_⟩
            · intro a W K N hK
              have e14 : a.tmps[14]?.getD undef = .int .i64 (i : Int) := N.was' 14 _ (by kernel_rfl) rfl
              rw [if_pos (wanted_no rfl)]
              go_simp
              refine hK _ _ (slotLe_refl _) ?_
              exact rfl
            refine ⟨?_, ?_⟩
            · intro a W K N hK
              have e113 : a.tmps[113]?.getD undef = _ := N.dep' 0 113 (by kernel_rfl)
              have e114 : a.tmps[114]?.getD undef = _ := N.dep' 1 114 (by kernel_rfl)
              rw [if_pos (wanted_no rfl)]
              go_simp
              refine hK _ _ (slotLe_refl _) ?_
              exact rfl
            refine ⟨?_, ?_⟩
            · intro a W K N hK
              have e115 : a.tmps[115]?.getD undef = _ := N.dep' 2 115 (by kernel_rfl)
              rw [if_pos (wanted_no rfl)]
              go_simp
              refine hK _ _ (slotLe_refl _) ?_
              exact rfl
            refine ⟨?_, ?_⟩
            · intro a W K N hK
              have e116 : a.tmps[116]?.getD undef = _ := N.dep' 3 116 (by kernel_rfl)
              rw [if_pos (wanted_no rfl)]
              have z_0 := keep_cell N.le x0
              have z_1 := keep_cell N.le x1
              go_simp
              refine hK _ _ (slotLe_refl _) ?_
              exact rfl
            refine ⟨?_, ?_⟩
            · intro a W K N hK
              have e6 : a.tmps[6]?.getD undef = .slice (some ⟨G6, 0, none⟩) KS.length cap6 := N.was' 6 _ (by kernel_rfl) rfl
              rw [if_pos (wanted_no rfl)]
              go_simp
              refine hK _ _ (slotLe_refl _) ?_
              exact rfl
            refine ⟨?_, ?_⟩
            · intro a W K N hK
              have e14 : a.tmps[14]?.getD undef = .int .i64 (i : Int) := N.was' 14 _ (by kernel_rfl) rfl
              rw [if_pos (wanted_no rfl)]
              go_simp
              refine hK _ _ (slotLe_refl _) ?_
              exact rfl
            refine ⟨?_, ?_⟩
            · intro a W K N hK
              have e118 : a.tmps[118]?.getD undef = _ := N.dep' 5 118 (by kernel_rfl)
              have e119 : a.tmps[119]?.getD undef = _ := N.dep' 6 119 (by kernel_rfl)
              rw [if_pos (wanted_no rfl)]
              go_simp
              refine hK _ _ (slotLe_refl _) ?_
              exact rfl
            refine ⟨?_, ?_⟩
            · intro a W K N hK
              have e120 : a.tmps[120]?.getD undef = _ := N.dep' 7 120 (by kernel_rfl)
              rw [if_pos (wanted_no rfl)]
              have z_0 := keep_cell N.le z0
              have z_1 := keep_cell N.le z1
              go_simp
              refine hK _ _ (slotLe_refl _) ?_
              exact rfl
            refine ⟨?_, ?_⟩
            · intro a W K N hK
              have e117 : a.tmps[117]?.getD undef = _ := N.dep' 4 117 (by kernel_rfl)
              have e121 : a.tmps[121]?.getD undef = _ := N.dep' 8 121 (by kernel_rfl)
              rw [if_pos (wanted_no rfl)]
              have hn := HNEQ.out
              go_simp
              refine hK _ _ (slotLe_refl _) ?_
              exact rfl
            refine ⟨?_, ?_⟩
            · intro a W K N hK
              have e122 : a.tmps[122]?.getD undef = _ := N.dep' 9 122 (by kernel_rfl)
              rw [if_pos (wanted_no rfl)]
              go_simp
              refine hK _ _ (slotLe_refl _) ?_
              exact rfl
            refine ⟨?_, ?_⟩
            · intro a W K N hK
              have e13 : a.tmps[13]?.getD undef = .slice (some ⟨gg, go, none⟩) L.length capL := N.was' 13 _ (by kernel_rfl) rfl
              have eg : a.tmps[123]?.getD undef = .bool false := N.dep' 10 123 (by kernel_rfl)
              rw [if_pos (by rw [wanted_get (g := 10) (d := 123) rfl rfl eg]; decide)]
              clear eg
              go_simp
              refine hK _ _ (slotLe_refl _) ?_
              exact rfl
            refine ⟨?_, ?_⟩
            · intro a W K N hK
              have e14 : a.tmps[14]?.getD undef = .int .i64 (i : Int) := N.was' 14 _ (by kernel_rfl) rfl
              have eg : a.tmps[123]?.getD undef = .bool false := N.dep' 10 123 (by kernel_rfl)
              rw [if_pos (by rw [wanted_get (g := 10) (d := 123) rfl rfl eg]; decide)]
              clear eg
              go_simp
              refine hK _ _ (slotLe_refl _) ?_
              exact rfl
            refine ⟨?_, ?_⟩
            · intro a W K N hK
              have e124 : a.tmps[124]?.getD undef = _ := N.dep' 11 124 (by kernel_rfl)
              have e125 : a.tmps[125]?.getD undef = _ := N.dep' 12 125 (by kernel_rfl)
              have eg : a.tmps[123]?.getD undef = .bool false := N.dep' 10 123 (by kernel_rfl)
              rw [if_pos (by rw [wanted_get (g := 10) (d := 123) rfl rfl eg]; decide)]
              clear eg
              go_simp
              refine hK _ _ (slotLe_refl _) ?_
              exact rfl
            refine ⟨?_, ?_⟩
            · intro a W K N hK
              have e126 : a.tmps[126]?.getD undef = _ := N.dep' 13 126 (by kernel_rfl)
              have eg : a.tmps[123]?.getD undef = .bool false := N.dep' 10 123 (by kernel_rfl)
              rw [if_pos (by rw [wanted_get (g := 10) (d := 123) rfl rfl eg]; decide)]
              clear eg
              go_simp
              refine hK _ _ (slotLe_refl _) ?_
              exact rfl
            refine ⟨?_, ?_⟩
            · intro a W K N hK
              have e127 : a.tmps[127]?.getD undef = _ := N.dep' 14 127 (by kernel_rfl)
              have eg : a.tmps[123]?.getD undef = .bool false := N.dep' 10 123 (by kernel_rfl)
              rw [if_pos (by rw [wanted_get (g := 10) (d := 123) rfl rfl eg]; decide)]
              clear eg
              have z_0 := keep_cell N.le x2
              go_simp
              refine hK _ _ (slotLe_refl _) ?_
              exact rfl
            refine ⟨?_, ?_⟩
            · intro a W K N hK
              have e128 : a.tmps[128]?.getD undef = _ := N.dep' 15 128 (by kernel_rfl)
              have eg : a.tmps[123]?.getD undef = .bool false := N.dep' 10 123 (by kernel_rfl)
              rw [if_pos (by rw [wanted_get (g := 10) (d := 123) rfl rfl eg]; decide)]
              clear eg
              go_simp
              refine hK _ _ (slotLe_refl _) ?_
              exact rfl
            refine ⟨?_, ?_⟩
            · intro a W K N hK
              have e7 : a.tmps[7]?.getD undef = .slice (some ⟨G7, 0, none⟩) CS.length cap7 := N.was' 7 _ (by kernel_rfl) rfl
              have eg : a.tmps[123]?.getD undef = .bool false := N.dep' 10 123 (by kernel_rfl)
              rw [if_pos (by rw [wanted_get (g := 10) (d := 123) rfl rfl eg]; decide)]
              clear eg
              go_simp
              refine hK _ _ (slotLe_refl _) ?_
              exact rfl
            refine ⟨?_, ?_⟩
            · intro a W K N hK
              have e14 : a.tmps[14]?.getD undef = .int .i64 (i : Int) := N.was' 14 _ (by kernel_rfl) rfl
              have eg : a.tmps[123]?.getD undef = .bool false := N.dep' 10 123 (by kernel_rfl)
              rw [if_pos (by rw [wanted_get (g := 10) (d := 123) rfl rfl eg]; decide)]
              clear eg
              go_simp
              refine hK _ _ (slotLe_refl _) ?_
              exact rfl
            refine ⟨?_, ?_⟩
            · intro a W K N hK
              have e130 : a.tmps[130]?.getD undef = _ := N.dep' 17 130 (by kernel_rfl)
              have e131 : a.tmps[131]?.getD undef = _ := N.dep' 18 131 (by kernel_rfl)
              have eg : a.tmps[123]?.getD undef = .bool false := N.dep' 10 123 (by kernel_rfl)
              rw [if_pos (by rw [wanted_get (g := 10) (d := 123) rfl rfl eg]; decide)]
              clear eg
              go_simp
              refine hK _ _ (slotLe_refl _) ?_
              exact rfl
            refine ⟨?_, ?_⟩
            · intro a W K N hK
              have e132 : a.tmps[132]?.getD undef = _ := N.dep' 19 132 (by kernel_rfl)
              have eg : a.tmps[123]?.getD undef = .bool false := N.dep' 10 123 (by kernel_rfl)
              rw [if_pos (by rw [wanted_get (g := 10) (d := 123) rfl rfl eg]; decide)]
              clear eg
              have z_0 := keep_cell N.le z7
              go_simp
              refine hK _ _ (slotLe_refl _) ?_
              exact rfl
            refine ⟨?_, ?_⟩
            · intro a W K N hK
              have e129 : a.tmps[129]?.getD undef = _ := N.dep' 16 129 (by kernel_rfl)
              have e133 : a.tmps[133]?.getD undef = _ := N.dep' 20 133 (by kernel_rfl)
              have eg : a.tmps[123]?.getD undef = .bool false := N.dep' 10 123 (by kernel_rfl)
              rw [if_pos (by rw [wanted_get (g := 10) (d := 123) rfl rfl eg]; decide)]
              clear eg
              go_simp
              try simp only [bne_self_eq_false]
              refine hK _ _ (slotLe_refl _) ?_
              exact rfl
            refine ⟨?_, ?_⟩
            · intro a W K N hK
              have e123 : a.tmps[123]?.getD undef = _ := N.dep' 10 123 (by kernel_rfl)
              have e134 : a.tmps[134]?.getD undef = _ := N.dep' 21 134 (by kernel_rfl)
              rw [if_pos (wanted_no rfl)]
              go_simp
              refine hK _ _ (slotLe_refl _) ?_
              exact rfl
            exact trivial
          case fin =>
            intro W1 hW1
            simp only [FinAll, slotPhi, List.getD_cons_zero, List.getD_cons_succ, forall_eq, Act.put, List.setIfInBounds_toArray, List.set_cons_zero, List.set_cons_succ]
            have bW1 := below_undrew hW1
            have HE1 := Lib.hid (readR_below HE.out bW1)
            have HB1 := Lib.hid (below_trans HBI.out bW1)
            replace x2 := keep_cell bW1 x2
            clear x0 x1 z0 z1 z7 hW1 bW1 HE HBI HNEQ
            go_wp2_with fail
            go_loopw [15] (fun j wi => ∃ p : Nat, j = .int .i64 ((p : Int) + 1) ∧ p + 1 ≤ rr.length ∧ Below W1.heap.size W1 wi) (fun j _ => rr.length + 1 - (intOf j).toNat)
            case atStart => exact ⟨0, rfl, by omega, Below.refl _ _⟩
            case round =>
              obtain ⟨p, rfl, hp, hbp⟩ := hrel
              replace x2 := keep_cell hbp x2
              by_cases hpl : p + 1 < rr.length
              · obtain ⟨gr, fr, rfl, _, _, _, _, y4⟩ := readR_at HE1.out (j := p) (by omega)
                obtain ⟨_, _, er, _, _, _, _, w4⟩ := readR_at HE1.out (j := p + 1) (by omega)
                cases er
                obtain ⟨i1, i2, h12, h256, hd1, hd2⟩ := HAS.out (p + 1) (by omega) hpl
                have hd1' : rr[p].data = [UInt8.ofNat i1] := by rw [Nat.add_sub_cancel, List.getElem?_eq_getElem (by omega)] at hd1; injection hd1
                have hd2' : rr[p + 1].data = [UInt8.ofNat i2] := by rw [List.getElem?_eq_getElem hpl] at hd2; injection hd2
                rw [hd1'] at y4
                rw [hd2'] at w4
                have hlt : UInt8.ofNat i1 < UInt8.ofNat i2 := by rw [UInt8.lt_iff_toNat_lt]; simp; omega
                obtain ⟨u1, hu1⟩ : ∃ z, UInt8.ofNat i1 = z := ⟨_, rfl⟩
                obtain ⟨u2, hu2⟩ : ∃ z, UInt8.ofNat i2 = z := ⟨_, rfl⟩
                rw [hu1] at y4 hlt
                rw [hu2] at w4 hlt
                replace y4 := keep_cell hbp y4
                replace w4 := keep_cell hbp w4
                have HGE := geqS hlt
                have HGE1 := fun W => geq1 W hlt
                have hp1 : ((p : Int) + 1 < (rr.length : Int)) := by omega
                have hwp : IntKind.i64.wrap (p : Int) = (p : Int) := IntWalk.i64_in _ (by omega)
                have hpn : p < rr.length := by omega
                have HBP := Lib.hid hbp
                clear hd1 hd1' hd2 hd2' h12 h256 hu1 hu2 hlt hbp
                go_wp2_with fail
                refine wp_region_slots slotLe (slotPhi ((fun v _ => v = ?b146) :: (fun v _ => v = ?b147) :: (fun v _ => v = ?b148) :: (fun v _ => v = ?b149) :: (fun v _ => v = ?b150) :: (fun v _ => v = ?b151) :: (fun v _ => v = ?b152) :: (fun v _ => v = ?b153) :: (fun v _ => v = ?b154) :: (fun v _ => v = ?b155) :: (fun v _ => v = ?b156) :: (fun v _ => v = ?b157) :: (fun v _ => v = ?b158) :: (fun v _ => v = ?b159) :: (fun v _ => v = ?b160) :: (fun v _ => v = ?b161) :: (fun v _ => v = ?b162) :: (fun v _ => v = ?b163) :: (fun v _ => v = ?b164) :: (fun v _ => v = ?b165) :: [])) slotLe_refl slotLe_trans (slotPhi_stable ?stb) (by kernel_rfl) (by kernel_rfl) (by kernel_rfl) ?steps ?fin
                case stb =>
                  refine ⟨by intro _ _ _ _ h; exact h, ?_⟩
                  refine ⟨by intro _ _ _ _ h; exact h, ?_⟩
                  refine ⟨by intro _ _ _ _ h; exact h, ?_⟩
                  refine ⟨by intro _ _ _ _ h; exact h, ?_⟩
                  refine ⟨by intro _ _ _ _ h; exact h, ?_⟩
                  refine ⟨by intro _ _ _ _ h; exact h, ?_⟩
                  refine ⟨by intro _ _ _ _ h; exact h, ?_⟩
                  refine ⟨by intro _ _ _ _ h; exact h, ?_⟩
                  refine ⟨by intro _ _ _ _ h; exact h, ?_⟩
                  refine ⟨by intro _ _ _ _ h; exact h, ?_⟩
                  refine ⟨by intro _ _ _ _ h; exact h, ?_⟩
                  refine ⟨by intro _ _ _ _ h; exact h, ?_⟩
                  refine ⟨by intro _ _ _ _ h; exact h, ?_⟩
                  refine ⟨by intro _ _ _ _ h; exact h, ?_⟩
                  refine ⟨by intro _ _ _ _ h; exact h, ?_⟩
                  refine ⟨by intro _ _ _ _ h; exact h, ?_⟩
                  refine ⟨by intro _ _ _ _ h; exact h, ?_⟩
                  refine ⟨by intro _ _ _ _ h; exact h, ?_⟩
                  refine ⟨by intro _ _ _ _ h; exact h, ?_⟩
                  refine ⟨by intro _ _ _ _ h; exact h, ?_⟩
                  exact trivial
                case steps =>
                  refine ⟨?_, ?_⟩
                  · intro a W K N hK
                    have e13 : a.tmps[13]?.getD undef = .slice (some ⟨gg, go, none⟩) L.length capL := N.was' 13 _ (by kernel_rfl) rfl
                    rw [if_pos (wanted_no rfl)]
                    go_simp
                    refine hK _ _ (slotLe_refl _) ?_
                    exact rfl
                  refine ⟨?_, ?_⟩
                  · intro a W K N hK
                    have e14 : a.tmps[14]?.getD undef = .int .i64 (i : Int) := N.was' 14 _ (by kernel_rfl) rfl
                    rw [if_pos (wanted_no rfl)]
                    go_simp
                    refine hK _ _ (slotLe_refl _) ?_
                    exact rfl
                  refine ⟨?_, ?_⟩
                  · intro a W K N hK
                    have e146 : a.tmps[146]?.getD undef = _ := N.dep' 0 146 (by kernel_rfl)
                    have e147 : a.tmps[147]?.getD undef = _ := N.dep' 1 147 (by kernel_rfl)
                    rw [if_pos (wanted_no rfl)]
                    go_simp
                    refine hK _ _ (slotLe_refl _) ?_
                    exact rfl
                  refine ⟨?_, ?_⟩
                  · intro a W K N hK
                    have e148 : a.tmps[148]?.getD undef = _ := N.dep' 2 148 (by kernel_rfl)
                    rw [if_pos (wanted_no rfl)]
                    go_simp
                    refine hK _ _ (slotLe_refl _) ?_
                    exact rfl
                  refine ⟨?_, ?_⟩
                  · intro a W K N hK
                    have e149 : a.tmps[149]?.getD undef = _ := N.dep' 3 149 (by kernel_rfl)
                    rw [if_pos (wanted_no rfl)]
                    have z_0 := keep_cell N.le x2
                    go_simp
                    refine hK _ _ (slotLe_refl _) ?_
                    exact rfl
                  refine ⟨?_, ?_⟩
                  · intro a W K N hK
                    have e15 : a.tmps[15]?.getD undef = .int .i64 ((p : Int) + 1) := N.was' 15 _ (by kernel_rfl) rfl
                    rw [if_pos (wanted_no rfl)]
                    go_simp
                    refine hK _ _ (slotLe_refl _) ?_
                    exact rfl
                  refine ⟨?_, ?_⟩
                  · intro a W K N hK
                    have e151 : a.tmps[151]?.getD undef = _ := N.dep' 5 151 (by kernel_rfl)
                    rw [if_pos (wanted_no rfl)]
                    go_simp
                    refine hK _ _ (slotLe_refl _) ?_
                    exact rfl
                  refine ⟨?_, ?_⟩
                  · intro a W K N hK
                    have e150 : a.tmps[150]?.getD undef = _ := N.dep' 4 150 (by kernel_rfl)
                    have e152 : a.tmps[152]?.getD undef = _ := N.dep' 6 152 (by kernel_rfl)
                    rw [if_pos (wanted_no rfl)]
                    go_simp
                    refine hK _ _ (slotLe_refl _) ?_
                    exact rfl
                  refine ⟨?_, ?_⟩
                  · intro a W K N hK
                    have e153 : a.tmps[153]?.getD undef = _ := N.dep' 7 153 (by kernel_rfl)
                    rw [if_pos (wanted_no rfl)]
                    go_simp
                    refine hK _ _ (slotLe_refl _) ?_
                    exact rfl
                  refine ⟨?_, ?_⟩
                  · intro a W K N hK
                    have e154 : a.tmps[154]?.getD undef = _ := N.dep' 8 154 (by kernel_rfl)
                    rw [if_pos (wanted_no rfl)]
                    have z_0 := keep_cell N.le y4
                    go_simp
                    refine hK _ _ (slotLe_refl _) ?_
                    exact rfl
                  refine ⟨?_, ?_⟩
                  · intro a W K N hK
                    have e13 : a.tmps[13]?.getD undef = .slice (some ⟨gg, go, none⟩) L.length capL := N.was' 13 _ (by kernel_rfl) rfl
                    rw [if_pos (wanted_no rfl)]
                    go_simp
                    refine hK _ _ (slotLe_refl _) ?_
                    exact rfl
                  refine ⟨?_, ?_⟩
                  · intro a W K N hK
                    have e14 : a.tmps[14]?.getD undef = .int .i64 (i : Int) := N.was' 14 _ (by kernel_rfl) rfl
                    rw [if_pos (wanted_no rfl)]
                    go_simp
                    refine hK _ _ (slotLe_refl _) ?_
                    exact rfl
                  refine ⟨?_, ?_⟩
                  · intro a W K N hK
                    have e156 : a.tmps[156]?.getD undef = _ := N.dep' 10 156 (by kernel_rfl)
                    have e157 : a.tmps[157]?.getD undef = _ := N.dep' 11 157 (by kernel_rfl)
                    rw [if_pos (wanted_no rfl)]
                    go_simp
                    refine hK _ _ (slotLe_refl _) ?_
                    exact rfl
                  refine ⟨?_, ?_⟩
                  · intro a W K N hK
                    have e158 : a.tmps[158]?.getD undef = _ := N.dep' 12 158 (by kernel_rfl)
                    rw [if_pos (wanted_no rfl)]
                    go_simp
                    refine hK _ _ (slotLe_refl _) ?_
                    exact rfl
                  refine ⟨?_, ?_⟩
                  · intro a W K N hK
                    have e159 : a.tmps[159]?.getD undef = _ := N.dep' 13 159 (by kernel_rfl)
                    rw [if_pos (wanted_no rfl)]
                    have z_0 := keep_cell N.le x2
                    go_simp
                    refine hK _ _ (slotLe_refl _) ?_
                    exact rfl
                  refine ⟨?_, ?_⟩
                  · intro a W K N hK
                    have e15 : a.tmps[15]?.getD undef = .int .i64 ((p : Int) + 1) := N.was' 15 _ (by kernel_rfl) rfl
                    rw [if_pos (wanted_no rfl)]
                    go_simp
                    refine hK _ _ (slotLe_refl _) ?_
                    exact rfl
                  refine ⟨?_, ?_⟩
                  · intro a W K N hK
                    have e160 : a.tmps[160]?.getD undef = _ := N.dep' 14 160 (by kernel_rfl)
                    have e161 : a.tmps[161]?.getD undef = _ := N.dep' 15 161 (by kernel_rfl)
                    rw [if_pos (wanted_no rfl)]
                    go_simp
                    refine hK _ _ (slotLe_refl _) ?_
                    exact rfl
                  refine ⟨?_, ?_⟩
                  · intro a W K N hK
                    have e162 : a.tmps[162]?.getD undef = _ := N.dep' 16 162 (by kernel_rfl)
                    rw [if_pos (wanted_no rfl)]
                    go_simp
                    refine hK _ _ (slotLe_refl _) ?_
                    exact rfl
                  refine ⟨?_, ?_⟩
                  · intro a W K N hK
                    have e163 : a.tmps[163]?.getD undef = _ := N.dep' 17 163 (by kernel_rfl)
                    rw [if_pos (wanted_no rfl)]
                    have z_0 := keep_cell N.le w4
                    go_simp
                    refine hK _ _ (slotLe_refl _) ?_
                    exact rfl
                  refine ⟨?_, ?_⟩
                  · intro a W K N hK
                    have e155 : a.tmps[155]?.getD undef = _ := N.dep' 9 155 (by kernel_rfl)
                    have e164 : a.tmps[164]?.getD undef = _ := N.dep' 18 164 (by kernel_rfl)
                    rw [if_pos (wanted_no rfl)]
                    go_simp
                    refine hK _ _ (slotLe_refl _) ?_
                    exact rfl
                  exact trivial
                case fin =>
                  intro W2 hW2
                  simp only [FinAll, slotPhi, List.getD_cons_zero, List.getD_cons_succ, forall_eq, Act.put, List.setIfInBounds_toArray, List.set_cons_zero, List.set_cons_succ]
                  have HB2 := Lib.hid (below_trans HBP.out (below_undrew hW2))
                  clear hW2
                  go_wp2_with fail
                  go_roundw
                  case rel => exact ⟨p + 1, by go_num, by omega, HB2.out⟩
                  case measure => simp [intOf]; omega
              · have hpe : p + 1 = rr.length := by omega
                have hp1 : ¬ ((p : Int) + 1 < (rr.length : Int)) := by omega
                have HB2 := Lib.hid (below_trans HB1.out hbp)
                clear hbp
                go_wp2_with fail
                go_roundw
                case rel => exact ⟨i + 1, by go_num, by omega, HB2.out⟩
                case measure => simp [intOf]; omega
        · obtain rfl : i = L.length := by omega
          have HB3 := Lib.hid (below_trans HB.out hbi)
          clear hbi
          go_wp2_with fail
          refine (HAW.out _).mono ?_
          rintro e w9 ⟨rfl, b9⟩
          go_wp2_with fail
          go_ret
          exact ⟨rfl, below_trans HB3.out b9⟩
end Go.Proofs.Ytdodamkndigjkaa

/- Sets of records that are dealt out by turns come in the order of their names' first ones, each with its own in order.
   Conditions: those of the row, none beside. -/
namespace Go.Proofs.Ytdodamkndigjkaa.matchOrder
open Go.ChangeShapes Go.WideShapes Go.ChangeAt Go.RowKit

set_option maxRecDepth 100000 in
theorem contract (H : Type) (enc : TypeId × Value → H) (W : World) (base : Nat) (args : Array Value) (ds gs : List (DataW H)) (before : List MemPlace)
    (hval : ∀ (j : Nat) t v, Try.f5.params[j]? = some t → args[j]? = some v → Value.okWide Try.prog W .any base t v)
    (hW : DataW.Whole enc Try.prog Try.f5.params.toList Rows.matchOrderSpec.vars false W args.toList ds gs before) (_hL : laidMetH Try.prog laidList W) :
    Calls Try.prog 5 args W fun e W' => ∃ v, e = .returned v ∧ Rows.matchOrderSpec.post enc Try.prog Try.f5 false true false false W args v W' := by
  have hW' := hW
  obtain ⟨p, q, hA0, hV, rfl, _, _⟩ := hW
  have hA : DataW.TrodAll enc Try.prog W 0 (fun _ => true) true Try.f5.params.toList args.toList ds p := hA0
  clear hA0
  rw [Try.params5] at hA hval
  obtain ⟨v0, vs0, d0, ds0, p0, q0, hargs0, rfl, rfl, h0, r0⟩ := trodAll_cons hA
  obtain ⟨v1, vs1, d1, ds1, p1, q1, hargs1, rfl, rfl, h1, r1⟩ := trodAll_cons r0
  subst hargs1
  obtain ⟨rfl, rfl, rfl⟩ := trodAll_nil r1
  obtain rfl : args = #[v0, v1] := by cases args; simp_all
  obtain ⟨rfl, rfl⟩ := trodVars_none hV
  obtain ⟨z0, hr0, hb0, hl0⟩ := arg_ints (hval 0 _ v0 rfl rfl) h0
  obtain ⟨z1, hr1, hb1, hl1⟩ := arg_ints (hval 1 _ v1 rfl rfl) h1
  refine (morder_any z0 z1 v0 v1 W hr0 hr1 hb0 hb1).mono fun e W' ⟨he, hbl⟩ => ?_
  exact ⟨_, he, law_post hW' rfl hbl rfl rfl (fun t ht => readT5 t (by rw [Try.params5] at ht; exact (show ∀ t ∈ (#[47, 47] : Array TypeId).toList, t ∈ [9, 3, 27, 25, 36, 47] by decide) t ht))⟩

set_option maxRecDepth 100000 in
theorem reads (os : Os) {H : Type} (enc : TypeId × Value → H) : ∃ places, DataW.whole enc Try.prog ((laidWorld os).forCall (fun _ _ => 0) ⟨#[], #[.slice none 0 0, .slice none 0 0], []⟩).memory Try.f5.params.toList Rows.matchOrderSpec.vars false (#[.slice none 0 0, .slice none 0 0] : Array Value).toList 8 = some ([.nil, .nil], [], places) :=
  ⟨[], by kernel_rfl⟩

set_option maxRecDepth 100000 in
theorem lifted (os : Os) (started : os.Started) (H : Type) (enc : TypeId × Value → H) (F : Stop.Interp) :
    ReturnsInHanded {} Try.checked os 5 .any ((OpenSpec.ofChange Rows.matchOrderSpec).preRow enc Try.prog Try.f5 Rows.matchOrderRow.domain false Rows.matchOrderRow.laid) (((OpenSpec.ofChange Rows.matchOrderSpec).at F).post enc Try.prog Try.f5 false true false false) := by
  obtain ⟨places, hx⟩ := reads os enc
  refine returnsInHanded_of_row (C := Try.checked) (s := OpenSpec.ofChange Rows.matchOrderSpec) own started (by kernel_rfl) Try.func5
    (witness_row_atRef (enc := enc) (C := Try.checked) false (laidWorld os) #[.slice none 0 0, .slice none 0 0] rfl (by kernel_rfl) (by kernel_rfl) (by kernel_rfl)
      (OpenSpec.preRow_of_cond 8 hx (by kernel_rfl) (fun k hk => by cases hk) (by kernel_rfl) (laid_met os _))) ?_
  intro W base args ds gs before hval hW _ _ _ hL _ _
  exact contract H enc W base args ds gs before hval hW hL

theorem said : Rows.MatchOrderSaid :=
  OpenClaim.holds_of_cond 5 Try.f5 rfl rfl rfl rfl rfl rfl rfl ⟨rfl, rfl, rfl, rfl, rfl⟩ rfl rfl rfl rfl rfl (by kernel_rfl) Try.func5 (by kernel_rfl)
    (of_decide_eq_true (by kernel_rfl)) (by unfold Func.isWrapper; first | (rw [if_pos (by decide +kernel)]; kernel_rfl) | (rw [if_neg (by decide +kernel)]; exact ⟨rfl, rfl⟩))
    (fun os started H enc _ F => by rw [OpenClaim.pre_eq_preRow]; exact lifted os started H enc F)
end Go.Proofs.Ytdodamkndigjkaa.matchOrder
