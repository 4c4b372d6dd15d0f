/- Parse. -/
import Derived.Test.YtiodfiegknkceaaDoorReadL
import Derived.Deep.RegionLaw
namespace Go.Proofs.YtiodfiegknkceaaDoor
open Go.RowKit Go.Shelf

theorem step_apd {α : Type} {P : Program} {ops : Array Oper} {o : Oper} {a : Act} {w : World} {K : Act → World → Prop} {Q : Exit → Act → World → Prop} {E : Prop}
    (hg : o.guard = none) (s x : Operand) (t : TypeId) (hop : o.op = Op.call { callee := Callee.builtin Builtin.append, args := #[s, x], argTypes := #[t, t] })
    (enc : α → Value) (henc : ∀ x, (enc x).oneCell' = true) (base : Nat) (e : TypeId) (z : Value) (bytes : Nat) (h1 : P.underlying t = some (.slice e))
    (h2 : (P.info? e).map (fun i => (i.zero, i.size, i.bytes)) = some (some z, 1, bytes)) (hz : z.cells.size = 1) (v : Value) (l : List α) (hs : a.eval s = v) (hown : OwnE enc e base v l w) (ad : Addr) (m c : Nat) (news : List α) (hx : a.eval x = .slice (some ad) m c) (hm : news.length = m)
    (hc : ∀ j u, (news.map enc)[j]? = some u → w.cell? (ad.add j) = some u) (b1 : l.length + m ≤ 1000000) (b2 : bytes ≤ 1000) (hb : base ≤ w.heap.size)
    (hK : ∀ v' w', OwnE enc e base v' (l ++ news) w' → Apd base v (l ≠ []) w w' → (v' = .slice none 0 0 ↔ v = .slice none 0 0 ∧ m = 0) → K (a.put o.dst v') w') :
    if Region.wanted o (yielded ops a.tmps) = true then Oper.wp P o a w K Q else E := by
  have hw : Region.wanted o (yielded ops a.tmps) = true := by simp [Region.wanted, hg]
  rw [if_pos hw]
  obtain ⟨v', w', hrun, r1, r2, r3⟩ := run_apd (P := P) enc henc w base t o.type e z bytes h1 h2 hz v l hown ad m c news hm hc b1 b2 hb
  unfold Oper.wp
  simp [execOp, hop, resolve, invoke, builtin, hs, hx, hrun, Result.andThen]
  exact hK v' w' r1 r2 r3

theorem ownS_read {e base : Nat} {v : Value} {L : List (List UInt8)} {W : World} (h : OwnE encS e base v L W) : ReadS v L W := by
  rcases ownE_form h with ⟨rfl, rfl⟩ | ⟨g, cap, rfl⟩
  · exact ⟨none, 0, rfl, fun j hj => by simp at hj⟩
  · exact ⟨some ⟨g, 0, none⟩, cap, rfl, fun j hj => ⟨g, 0, rfl, ownE_cell h hj⟩⟩

namespace Nm
theorem rlF_le : ∀ (f : Nat) (s acc : List UInt8) (k : Nat), (rlF f s acc k).2 ≤ k + s.length ∧ (rlF f s acc k).1.length ≤ acc.length + s.length
  | 0, _, _, _ => by simp [rlF]
  | _ + 1, [], _, _ => by simp [rlF]
  | f + 1, c :: r, acc, k => by
    simp only [rlF]
    split
    · simp
    · split
      · simp
      · rename_i h
        have h1 := rlF_le f ((c :: r).drop (readB (c :: r)).2) (acc ++ [(readB (c :: r)).1]) (k + (readB (c :: r)).2)
        have h2 := readB_le (c :: r)
        rw [List.length_drop, List.length_append, List.length_singleton] at h1
        omega
theorem rl_le (s : List UInt8) : (rl s [] 0).2 ≤ s.length ∧ (rl s [] 0).1.length ≤ s.length := by
  have := rlF_le (s.length + 1) s [] 0
  simpa [rl] using this
def plF : Nat → List UInt8 → List (List UInt8) → Option (List (List UInt8))
  | _, [], acc => some acc
  | 0, _ :: _, _ => none
  | f + 1, c :: r, acc => if (rl (c :: r) [] 0).2 = 0 then none else plF f ((c :: r).drop (rl (c :: r) [] 0).2) (acc ++ [(rl (c :: r) [] 0).1])
theorem plF_fuel : ∀ (f g : Nat) (s : List UInt8) (acc : List (List UInt8)), s.length ≤ f → s.length ≤ g → plF f s acc = plF g s acc
  | 0, 0, _, _, _, _ => rfl
  | f, g, [], _, _, _ => by cases f <;> cases g <;> rfl
  | 0, _ + 1, _ :: _, _, h, _ => by simp at h
  | _ + 1, 0, _ :: _, _, _, h => by simp at h
  | f + 1, g + 1, c :: r, acc, h, h' => by
    simp only [plF]
    split
    · rfl
    · rename_i hk
      simp only [List.length_cons] at h h'
      exact plF_fuel f g _ _ (by rw [List.length_drop]; simp only [List.length_cons]; omega) (by rw [List.length_drop]; simp only [List.length_cons]; omega)
def pl (s : List UInt8) (acc : List (List UInt8)) : Option (List (List UInt8)) := plF s.length s acc
theorem pl_nil (acc : List (List UInt8)) : pl [] acc = some acc := rfl
theorem pl_bad {s : List UInt8} {acc : List (List UInt8)} (hs : s ≠ []) (h : (rl s [] 0).2 = 0) : pl s acc = none := by
  cases s with
  | nil => exact absurd rfl hs
  | cons c r => simp [pl, plF, h]
theorem pl_step {s : List UInt8} {acc : List (List UInt8)} (hs : s ≠ []) (h : (rl s [] 0).2 ≠ 0) : pl s acc = pl (s.drop (rl s [] 0).2) (acc ++ [(rl s [] 0).1]) := by
  cases s with
  | nil => exact absurd rfl hs
  | cons c r =>
    unfold pl
    rw [show (c :: r).length = r.length + 1 from rfl, plF, if_neg h]
    exact plF_fuel _ _ _ _ (by rw [List.length_drop]; simp only [List.length_cons]; omega) (Nat.le_refl _)
def parse (s : List UInt8) : Option (List UInt8) :=
  if s = [46] then some [0] else if s = [] ∨ 1020 < s.length then none else (pl s []).bind join
end Nm

def parseRet (s : List UInt8) : Value := .tuple #[.string ⟨((Nm.parse s).getD []).toArray⟩, .int .i64 (if (Nm.parse s).isSome then 0 else 2)]
theorem parseRet_none {s : List UInt8} (h : Nm.parse s = none) : parseRet s = .tuple #[.string ⟨#[]⟩, .int .i64 2] := by unfold parseRet; rw [h]; rfl

theorem joinRet_form (L : List (List UInt8)) : ∃ (jt : List UInt8) (jn : Int), joinRet L = .tuple #[.string ⟨jt.toArray⟩, .int .i64 jn] := ⟨_, _, rfl⟩

set_option maxRecDepth 100000 in
set_option maxHeartbeats 2000000 in
theorem parse_any (s : List UInt8) (w : World) (hs : s.length ≤ 100000) (hv : VarsOk w) :
    Calls Tryd.prog 13 #[.string ⟨s.toArray⟩] w fun e w' => e = .returned (parseRet s) ∧ Below w.heap.size w w' := by
  by_cases h46 : s = [46]
  · subst h46
    have H := Lib.hid (show parseRet [46] = .tuple #[.string ⟨#[0]⟩, .int .i64 0] from rfl)
    go_enter Tryd.func13, Tryd.ntmps13
    go_wp2
    go_ret2
    exact ⟨by rw [H.out]; rfl, Below.refl _ _⟩
  have t46 : (s == [46]) = false := by simpa using h46
  by_cases h0 : s = []
  · subst h0
    have H := Lib.hid (parseRet_none (s := []) (by simp [Nm.parse]))
    clear h46
    go_enter Tryd.func13, Tryd.ntmps13
    go_wp2
    go_ret2
    exact ⟨by rw [H.out]; rfl, Below.refl _ _⟩
  have t0 : (s == []) = false := by simpa using h0
  have t0' : s.isEmpty = false := by simpa using h0
  by_cases hl : 1020 < s.length
  · have H := Lib.hid (parseRet_none (s := s) (by simp [Nm.parse, h46, h0, hl]))
    clear h46 h0
    go_enter Tryd.func13, Tryd.ntmps13
    go_wp2
    go_ret2
    exact ⟨by rw [H.out]; rfl, Below.refl _ _⟩
  have HP := Lib.hid (show Nm.parse s = (Nm.pl s []).bind Nm.join by simp [Nm.parse, h46, h0, hl])
  clear h46 h0
  go_enter Tryd.func13, Tryd.ntmps13
  go_wp2
  go_loopw [0, 4] (fun s1 v wr => ∃ (v1 : Value) (rest : List UInt8) (L : List (List UInt8)), s1 = .string ⟨rest.toArray⟩ ∧ v = v1 ∧ rest.length ≤ s.length ∧ L.length + rest.length ≤ s.length ∧ Hid (∀ l ∈ L, l.length ≤ s.length) ∧ OwnE encS 9 w.heap.size v1 L wr ∧ Below w.heap.size w wr ∧ Hid (Nm.pl rest L = Nm.pl s [])) (fun s1 _ _ => (match s1 with | .string b => b.size | _ => 0))
  case atStart => exact ⟨_, s, [], rfl, rfl, by omega, by simp, Lib.hid (fun l h => by cases h), ownE_nil _ _ _ _, Below.refl _ _, Lib.hid rfl⟩
  case round =>
    obtain ⟨v1, rest, L, rfl, rfl, hrl, hLr, hLs, ho, hb, hp⟩ := hrel
    have hwr := hb.size
    by_cases hr0 : rest = []
    · subst hr0
      have hfin := hp.out
      rw [Nm.pl_nil] at hfin
      have H := Lib.hid (show parseRet s = joinRet L by unfold parseRet joinRet; rw [HP.out, ← hfin]; rfl)
      clear hfin
      obtain ⟨jt, jn, hj⟩ := joinRet_form L
      rw [hj] at H
      have HJ := Lib.hid hj
      clear hj
      go_wp2_with (go_at_call 26; refine (join_any L _ _ (ownS_read ho) (by omega) (fun l hl => by have := hLs.out l hl; omega)).mono ?_; rw [HJ.out]; rintro e w1 ⟨rfl, hb1⟩)
      go_ret2
      exact ⟨by rw [H.out]; rfl, below_trans hb hb1⟩
    · have t1 : (rest == []) = false := by simpa using hr0
      have t1' : rest.isEmpty = false := by simpa using hr0
      have t1'' : (!rest.isEmpty) = true := by simpa using hr0
      have hle := Nm.rl_le rest
      obtain ⟨lt, hlt⟩ : ∃ lt, lt = (Nm.rl rest [] 0).1 := ⟨_, rfl⟩
      obtain ⟨d, hd⟩ : ∃ d, d = (Nm.rl rest [] 0).2 := ⟨_, rfl⟩
      have HR := Lib.hid (show rlRet rest = .tuple #[.string ⟨lt.toArray⟩, .int .i64 (d : Int)] by unfold rlRet; rw [hlt, hd])
      by_cases h0 : d = 0
      · subst h0
        have hfin : Nm.pl s [] = none := by rw [← hp.out]; exact Nm.pl_bad hr0 hd.symm
        have H := Lib.hid (parseRet_none (show Nm.parse s = none by rw [HP.out, hfin]; rfl))
        clear hfin hd hlt hr0 hle
        go_wp2_with (go_at_call 37; refine (readLabel_any rest _ (by omega) (hv.below hb)).mono ?_; rw [HR.out]; rintro e w1 ⟨rfl, hb1⟩)
        go_ret2
        exact ⟨by rw [H.out]; rfl, below_trans hb hb1⟩
      · have hstep : Nm.pl (rest.drop d) (L ++ [lt]) = Nm.pl s [] := by rw [← hp.out, Nm.pl_step hr0 (by rw [← hd]; exact h0), ← hd, ← hlt]
        have HS := Lib.hid hstep
        rw [← hd, ← hlt] at hle
        have t3 : ((d : Int) == 0) = false := by rw [beq_eq_false_iff_ne]; omega
        have hex := ext_from rest d
        have HLt := Lib.hid hle
        have hd2 : d ≤ rest.length := hle.1
        have hlt2 : lt.length ≤ rest.length := hle.2
        clear hstep hd hlt hr0 hle
        go_wp2_with (go_at_call 37; refine (readLabel_any rest _ (by omega) (hv.below hb)).mono ?_; rw [HR.out]; rintro e w1 ⟨rfl, hb1⟩; have hbb := below_trans hb hb1; have hwb := hbb.size; have ho1 := ownE_below ho hb1)
        go_region_law (refine step_apd rfl (.tmp 25) (.tmp 27) 23 rfl encS encS_one w.heap.size 9 _ 16 Tryd.underlying23 infoStr rfl u4 L (by simp [Act.eval]) (by exact ownE_alloc ho1 _) ⟨w1.heap.size, 0, none⟩ 1 1 [lt] (by simp [Act.eval]) rfl (by exact cell_one_new _ _ _) (by omega) (by omega) (by simp; omega) ?_; intro v2 w2 ho2 ha2 hn2)
        simp only [List.getElem_toArray, List.getElem_cons_succ, List.getElem_cons_zero, Act.put, List.setIfInBounds_toArray, List.set_cons_succ, List.set_cons_zero]
        go_wp2
        go_roundw
        case rel => exact ⟨_, rest.drop d, L ++ [lt], rfl, rfl, by simp; omega, by simp; omega, Lib.hid (fun l hl => (List.mem_append.1 hl).elim (hLs.out l) (fun h => by rw [List.mem_singleton.1 h]; omega)), ho2, hbb.trans ((((Below.refl w.heap.size w1).alloc hwb _).drew).trans ha2.below), HS⟩
        case measure =>
          show (rest.drop d).toArray.size < rest.toArray.size
          simp
          omega
end Go.Proofs.YtiodfiegknkceaaDoor
