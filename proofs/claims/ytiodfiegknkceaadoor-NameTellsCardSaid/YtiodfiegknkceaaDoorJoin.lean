/- Join. -/
import Derived.Test.YtiodfiegknkceaaDoorUnder
import Derived.Test.YtiodfiegknkceaaDoorAppend
namespace Go.Proofs.YtiodfiegknkceaaDoor
open Go.RowKit Go.Shelf
attribute [local go_sem] Oper.semAt_some

theorem infoByte : (Tryd.prog.info? 5).map (fun i => (i.zero, i.size, i.bytes)) = some (some (.int .u8 0), 1, 1) := by kernel_rfl
theorem infoStr : (Tryd.prog.info? 9).map (fun i => (i.zero, i.size, i.bytes)) = some (some (.string ⟨#[]⟩), 1, 16) := by kernel_rfl
theorem infoInt : (Tryd.prog.info? 3).map (fun i => (i.zero, i.size, i.bytes)) = some (some (.int .i64 0), 1, 8) := by kernel_rfl

def encS (l : List UInt8) : Value := .string ⟨l.toArray⟩
theorem encS_one (l : List UInt8) : (encS l).oneCell' = true := rfl
def encI (x : Nat) : Value := .int .i64 (x : Int)
theorem encI_one (x : Nat) : (encI x).oneCell' = true := rfl

/-- A slice of strings that is read: from an address on, or nil. -/
structure ReadS (v : Value) (ls : List (List UInt8)) (W : World) : Prop where
  form : ∃ ao cap, v = .slice ao ls.length cap ∧ ∀ (j : Nat) (h : j < ls.length), ∃ b off, ao = some ⟨b, off, none⟩ ∧ W.cell? ⟨b, off + j, none⟩ = some (encS ls[j])

/-- A slice of what the call owns, made with room. -/
theorem run_make0 {P : Program} {t e : TypeId} {z : Value} {bytes : Nat} (h1 : P.underlying t = some (.slice e)) (h2 : (P.info? e).map (fun i => (i.zero, i.size, i.bytes)) = some (some z, 1, bytes)) (c : Nat) (hc : bytes * c ≤ 281474976710656) (hc1 : c ≤ 1000000) (_hz : z.cells.size = 1) (W : World) :
    ∃ cur : Array Value, (Instr.makeSlice t (.int .i64 0) (.int .i64 (c : Int))).run P W = .ok (.slice (some ⟨W.heap.size, 0, none⟩) 0 c) (W.alloc (.cells cur e)) ∧ cur.size = c * 1 := by
  obtain ⟨i, hi, hz0, hz1, hz2⟩ := info_parts h2
  have hci : (c : Int) ≤ 9223372036854775807 := by omega
  have h := run_make (P := P) W t e i z h1 hi hz0 .i64 .i64 0 (c : Int) (by omega) (by omega) (by rw [hz2, ← Int.natCast_mul]; generalize bytes * c = p at hc; omega) hci
  refine ⟨madeCells z.cells ((c : Int).toNat * i.size), ?_, ?_⟩
  · rw [h]; rfl
  · rw [size_madeCells, hz1]; simp

/-- What Join hands back. -/
def joinRet (ls : List (List UInt8)) : Value := .tuple #[.string ⟨((Nm.join ls).getD []).toArray⟩, .int .i64 (if (Nm.join ls).isSome then 0 else 2)]
theorem joinRet_none {ls : List (List UInt8)} (h : Nm.join ls = none) : joinRet ls = .tuple #[.string ⟨#[]⟩, .int .i64 2] := by unfold joinRet; rw [h]; rfl
theorem joinRet_some {ls : List (List UInt8)} {n : List UInt8} (h : Nm.join ls = some n) : joinRet ls = .tuple #[.string ⟨n.toArray⟩, .int .i64 0] := by unfold joinRet; rw [h]; rfl

theorem run_make0_all {P : Program} {t e : TypeId} {z : Value} {bytes : Nat} (h1 : P.underlying t = some (.slice e)) (h2 : (P.info? e).map (fun i => (i.zero, i.size, i.bytes)) = some (some z, 1, bytes)) (c : Nat) (hc : bytes * c ≤ 281474976710656) (hc1 : c ≤ 1000000) (_hz : z.cells.size = 1) :
    ∃ cur : Array Value, (∀ W : World, (Instr.makeSlice t (.int .i64 0) (.int .i64 (c : Int))).run P W = .ok (.slice (some ⟨W.heap.size, 0, none⟩) 0 c) (W.alloc (.cells cur e))) ∧ cur.size = c * 1 := by
  obtain ⟨i, hi, hz0, hz1, hz2⟩ := info_parts h2
  have hci : (c : Int) ≤ 9223372036854775807 := by omega
  have hcb : (i.bytes : Int) * (c : Int) ≤ 281474976710656 := by rw [hz2, ← Int.natCast_mul]; generalize bytes * c = p at hc; omega
  exact ⟨madeCells z.cells ((c : Int).toNat * i.size), fun W => run_make (P := P) W t e i z h1 hi hz0 .i64 .i64 0 (c : Int) (by omega) (by omega) hcb hci, by rw [size_madeCells, hz1]; simp⟩

set_option maxRecDepth 100000 in
set_option maxHeartbeats 2000000 in
theorem join_any (ls : List (List UInt8)) (sv : Value) (w : World) (hr : ReadS sv ls w) (hn : ls.length ≤ 100000) (hl : ∀ l ∈ ls, l.length ≤ 100000) :
    Calls Tryd.prog 26 #[sv] w fun e w' => e = .returned (joinRet ls) ∧ Below w.heap.size w w' := by
  refine (callsIn_wide (n := 8)).1 ?_
  refine callsIn_of_wp Tryd.func26 rfl trivial ?_ rfl
  simp only [Tryd.ntmps26, List.size_toArray, List.length_cons, List.length_nil, Nat.reduceAdd, Nat.reduceSub, Array.replicate_succ, Array.replicate_zero, List.push_toArray, List.append_toArray, List.nil_append, List.cons_append]
  obtain ⟨cur, hmk, hcs⟩ := run_make0 (P := Tryd.prog) Tryd.underlying44 infoByte 255 (by omega) (by omega) rfl w
  have hown := World.ownsRow_made (base := w.heap.size) (e := 5) (size := 1) w cur 255 (Nat.le_refl _) (by unfold maxLen; omega) hcs
  have hmk' : (Instr.makeSlice 44 (.int .i64 0) (.int .i64 255)).run Tryd.prog w = .ok (.slice (some ⟨w.heap.size, 0, none⟩) 0 255) (w.alloc (.cells cur 5)) := hmk
  clear hmk
  have HC := Lib.hid hcs
  clear hcs
  obtain ⟨ao, cap, rfl, hcell⟩ := hr.form
  have hbw : Below w.heap.size w (w.alloc (.cells cur 5)) := (Below.refl _ w).alloc (Nat.le_refl _) _
  gi_wp2
  generalize hW0 : w.alloc (.cells cur 5) = W0 at *
  have HW0 := Lib.hid hW0
  clear hW0
  gi_loopw [4, 10] (fun v i wr => ∃ (k g cp : Nat) (L : List UInt8), k ≤ ls.length ∧ i = .int .i64 k ∧ v = .slice (some ⟨g, 0, none⟩) L.length cp ∧ OwnE encB 5 w.heap.size v L wr ∧ Below w.heap.size w wr ∧ Hid (L = Nm.encs (ls.take k) ∧ Nm.fitsAll 0 (ls.take k) = true)) (fun _ i _ => ls.length + 1 - (intOf i).toNat)
  case atStart => exact ⟨0, w.heap.size, 255, [], by omega, rfl, rfl, by simpa [OwnE] using hown, hbw, Lib.hid ⟨rfl, rfl⟩⟩
  case round =>
    obtain ⟨k, g, cp, L, hk, rfl, rfl, ho, hbl, hf⟩ := hrel
    have hLL : L.length = Nm.encL (ls.take k) := by rw [hf.out.1, Nm.encs_length]
    have hle : L.length ≤ 254 := by have := ((Nm.fitsAll_iff 0 (ls.take k) (by omega)).1 hf.out.2).2; omega
    have HLL := Lib.hid hLL
    clear hLL
    have hwb := hbl.size
    by_cases hlt : k < ls.length
    · obtain ⟨b, off, rfl, hc⟩ := hcell k hlt
      have hc2 : wr.cell? ⟨b, off + k, none⟩ = some (.string ⟨(ls[k]).toArray⟩) := (hbl.cell (p := ⟨b, off + k, none⟩) (cell_lt hc)).trans hc
      have hlk := hl ls[k] (List.getElem_mem hlt)
      have HT := Lib.hid (show Nm.fits (Nm.encL (ls.take k)) ls[k] = true → Nm.fitsAll 0 (ls.take (k + 1)) = true from fun h => Nm.fitsAll_take hlt hf.out.2 h)
      have HE := Lib.hid (Nm.encs_take hlt)
      have HN := Lib.hid (show Nm.fits (Nm.encL (ls.take k)) ls[k] = false → joinRet ls = .tuple #[.string ⟨#[]⟩, .int .i64 2] from fun h => joinRet_none (Nm.join_none_at hlt h))
      obtain ⟨l, hlk'⟩ : ∃ l, l = ls[k] := ⟨_, rfl⟩
      rw [← hlk'] at hc2 hlk HT HE HN
      clear hcell hc hlk'
      by_cases h1 : l = []
      · subst h1
        have H := Lib.hid (HN.out (Nm.fits_no1 rfl))
        gi_wp2
        go_ret2
        exact ⟨by rw [H.out]; rfl, hbl⟩
      · have hb1 : (l == []) = false := by simpa using h1
        have hb2 : l.isEmpty = false := by simpa using h1
        by_cases h2 : 63 < l.length
        · have H := Lib.hid (HN.out (Nm.fits_no2 h2))
          clear h1
          gi_wp2
          go_ret2
          exact ⟨by rw [H.out]; rfl, hbl⟩
        · by_cases h3 : 255 < L.length + l.length + 2
          · have H := Lib.hid (HN.out (Nm.fits_no3 (by rw [← HLL.out]; exact h3)))
            clear h1
            gi_wp2
            go_ret2
            exact ⟨by rw [H.out]; rfl, hbl⟩
          · have hfit := Nm.fits_yes (k := Nm.encL (ls.take k)) h1 h2 (by rw [← HLL.out]; exact h3)
            have HF := Lib.hid hfit
            clear hfit h1
            have hu : ((UInt8.ofNat l.length).toNat : Int) = (l.length : Int) := by rw [Nm.ofNat_toNat (by omega)]
            gi_wp2_with (gi_at_builtin; refine wpListIn_apd _ rfl _ _ 44 rfl encB encB_one w.heap.size 5 _ 1 Tryd.underlying44 infoByte rfl _ L rfl (ownE_alloc ho _) ⟨_, 0, none⟩ 1 1 [UInt8.ofNat l.length] rfl rfl (by simp only [List.map_cons, List.map_nil, encB, hu]; exact cell_one_new _ _ _) (by omega) (by omega) (by simp; omega) ?_; intro v1 w1 ho1 ha1 hn1; refine Hid.out ?_)
            refine Lib.hid ?_
            obtain ⟨g1, cp1, rfl⟩ := (ownE_form ho1).resolve_left (fun h => by have := h.2; simp at this)
            have hb1' := ha1.below
            have hsz1 := ha1.below.size
            gi_wp2_with (gi_at_builtin; refine wpListIn_apd_string _ rfl _ _ 44 9 rfl w.heap.size 5 Tryd.underlying44 Tryd.underlying9 infoByte _ (L ++ [UInt8.ofNat l.length]) rfl ho1 l rfl (by simp; omega) (by simp at hsz1; omega) ?_; intro v2 w2 ho2 hb2' hn2; obtain ⟨g2, cp2, rfl⟩ := (ownE_form ho2).resolve_left (fun h => by have := h.2; simp at this); refine Hid.out ?_)
            refine Lib.hid ?_
            have hbl2 : Below w.heap.size w w2 := (hbl.alloc (by omega) _).trans (hb1'.trans hb2')
            have e2 : (L ++ [UInt8.ofNat l.length] ++ l).length = L.length + (l.length + 1) := by simp only [List.length_append, List.length_singleton]; omega
            rw [e2] at ho2
            have E2 := Lib.hid e2
            clear e2
            gi_wp2
            go_roundw
            case rel => exact ⟨k + 1, g2, cp2, (L ++ [UInt8.ofNat l.length]) ++ l, by omega, by go_num, by rw [E2.out], ho2, hbl2, Lib.hid ⟨by rw [HE.out, hf.out.1], HT.out HF.out⟩⟩
            case measure => simp [intOf]; omega
    · obtain rfl : k = ls.length := by omega
      have H := Lib.hid (show joinRet ls = .tuple #[.string ⟨(L ++ [0]).toArray⟩, .int .i64 0] from by
        have h2 := hf.out.2
        have h1 := hf.out.1
        rw [List.take_length] at h1 h2
        refine joinRet_some ?_
        unfold Nm.join
        rw [if_pos h2, Nm.made_encs, h1])
      gi_wp2_with (gi_at_builtin; refine wpListIn_apd _ rfl _ _ 44 rfl encB encB_one w.heap.size 5 _ 1 Tryd.underlying44 infoByte rfl _ L rfl (ownE_alloc ho _) ⟨_, 0, none⟩ 1 1 [0] rfl rfl (cell_one_new _ _ _) (by omega) (by omega) (by simp; omega) ?_; intro v1 w1 ho1 ha1 hn1; refine Hid.out ?_)
      refine Lib.hid ?_
      have hst := run_str (src := 44) (dst := 9) (P := Tryd.prog) Tryd.underlying44 Tryd.underlying5 Tryd.underlying9 ho1
      obtain ⟨g1, cp1, rfl⟩ := (ownE_form ho1).resolve_left (fun h => by have := h.2; simp at this)
      simp only [List.length_append, List.length_singleton] at hst
      gi_wp2
      go_ret2
      exact ⟨by rw [H.out]; rfl, (hbl.alloc (by omega) _).trans ha1.below⟩
end Go.Proofs.YtiodfiegknkceaaDoor
