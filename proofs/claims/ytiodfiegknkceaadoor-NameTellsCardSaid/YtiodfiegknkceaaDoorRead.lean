/- readByte, readLabel, Parse. -/
import Derived.Test.YtiodfiegknkceaaDoorFold
import Derived.Test.YtiodfiegknkceaaDoorParseU
namespace Go.Proofs.YtiodfiegknkceaaDoor
open Go.RowKit Go.Shelf
attribute [local go_sem] Oper.semAt_some

namespace Nm
def shown (c : UInt8) : Bool := decide (33 ≤ c.toNat ∧ c.toNat ≤ 126)
/-- A byte read, and how long its text is (0: none). -/
def readB (s : List UInt8) : UInt8 × Nat :=
  match s with
  | [] => (0, 0)
  | c :: r =>
    if c ≠ 92 then (if shown c then (c, 1) else (0, 0))
    else match r with
      | [] => (0, 0)
      | d :: r' =>
        if d = 46 ∨ d = 92 then (d, 2)
        else if 2 ≤ r'.length then (match Lib.parseUintB 8 ((d :: r').take 3) with | .ok v => if shown (UInt8.ofNat v) then (0, 0) else (UInt8.ofNat v, 4) | _ => (0, 0))
        else (0, 0)
end Nm

def rbRet (s : List UInt8) : Value := .tuple #[.int .u8 ((Nm.readB s).1.toNat : Int), .int .i64 ((Nm.readB s).2 : Int)]
theorem rbRet_of {s : List UInt8} {c : UInt8} {k : Nat} (h : Nm.readB s = (c, k)) : rbRet s = .tuple #[.int .u8 (c.toNat : Int), .int .i64 (k : Int)] := by unfold rbRet; rw [h]

theorem beqI {a b : UInt8} (h : a = b) : ((a.toNat : Int) == (b.toNat : Int)) = true := by rw [h]; simp
theorem nbeqI {a b : UInt8} (h : a ≠ b) : ((a.toNat : Int) == (b.toNat : Int)) = false := by rw [beq_eq_false_iff_ne]; intro e; exact h (by rw [← UInt8.toNat_inj]; exact Int.ofNat.inj e)

set_option maxRecDepth 100000 in
set_option maxHeartbeats 400000 in
theorem readByte_any (s : List UInt8) (w : World) (hs : s.length ≤ 100000) (hne : s ≠ []) (hv : VarsOk w) :
    Calls Tryd.prog 49 #[.string ⟨s.toArray⟩] w fun e w' => e = .returned (rbRet s) ∧ Below w.heap.size w w' := by
  obtain ⟨c, r, rfl⟩ : ∃ c r, s = c :: r := by cases s with | nil => exact absurd rfl hne | cons c r => exact ⟨c, r, rfl⟩
  have h0 : ((⟨(c :: r).toArray⟩ : ByteArray)[0]'(by show 0 < (c :: r).toArray.size; simp)) = c := rfl
  by_cases h92 : c = 92
  · subst h92
    cases r with
    | nil =>
      have H := Lib.hid (rbRet_of (show Nm.readB [92] = (0, 0) from rfl))
      go_enter Tryd.func49, Tryd.ntmps49
      go_wp2
      go_ret2
      exact ⟨by rw [H.out]; rfl, Below.refl _ _⟩
    | cons d r =>
      have h1 : ((⟨(92 :: d :: r).toArray⟩ : ByteArray)[1]'(by show 1 < (92 :: d :: r).toArray.size; simp)) = d := rfl
      by_cases hd : d = 46 ∨ d = 92
      · have H := Lib.hid (rbRet_of (show Nm.readB (92 :: d :: r) = (d, 2) by simp [Nm.readB, hd]))
        by_cases h46 : d = 46
        · have t1 : ((d.toNat : Int) == 46) = true := by rw [h46]; rfl
          clear hd h46
          go_enter Tryd.func49, Tryd.ntmps49
          go_wp2
          go_ret2
          exact ⟨by rw [H.out]; rfl, Below.refl _ _⟩
        · have t1 : ((d.toNat : Int) == 46) = false := nbeqI (b := 46) h46
          have t2 : ((d.toNat : Int) == 92) = true := by rw [hd.resolve_left h46]; rfl
          clear hd h46
          go_enter Tryd.func49, Tryd.ntmps49
          go_wp2
          go_ret2
          exact ⟨by rw [H.out]; rfl, Below.refl _ _⟩
      · have t1 : ((d.toNat : Int) == 46) = false := nbeqI (b := 46) (fun e => hd (.inl e))
        have t2 : ((d.toNat : Int) == 92) = false := nbeqI (b := 92) (fun e => hd (.inr e))
        by_cases hl : 2 ≤ r.length
        · have hql : (d :: r.take 2).length ≤ 3 := by simp; omega
          have hq : (d :: r).take 3 = d :: r.take 2 := rfl
          have hsl : ∀ W : World, (Instr.slice 9 (.string ⟨(92 :: d :: r).toArray⟩) (some (.int .i64 1)) (some (.int .i64 4)) none).run Tryd.prog W = .ok (.string ⟨(d :: r.take 2).toArray⟩) W :=
            fun W => run_cut (P := Tryd.prog) Tryd.underlying9 (l := 92 :: d :: r) (l' := d :: r.take 2) (lo := 1) (hi := 4) (by omega) (by omega) (by simp; omega) rfl W
          cases hp : Lib.parseUintB 8 (d :: r.take 2) with
          | ok u =>
            have hu : u ≤ 255 := Lib.parseUintB_le hp
            have hun : ((UInt8.ofNat u).toNat : Int) = (u : Int) := by simp; omega
            cases hsh : Nm.shown (UInt8.ofNat u)
            · have H := Lib.hid (rbRet_of (show Nm.readB (92 :: d :: r) = (UInt8.ofNat u, 4) by simp only [Nm.readB, hd, hl, hq, hp, hsh]; simp))
              have HS := Lib.hid hsh
              have HP := Lib.hid hp
              clear hsh hp hd hq
              go_enter Tryd.func49, Tryd.ntmps49
              go_wp2_with fail
              refine (parseU_ok (d :: r.take 2) u HP.out hql _).mono ?_
              rintro e w1 ⟨rfl, hb⟩
              go_wp2_with (go_at_call 53; rw [← hun]; refine (shown_any (UInt8.ofNat u) _).mono ?_; rw [show decide (33 ≤ (UInt8.ofNat u).toNat ∧ (UInt8.ofNat u).toNat ≤ 126) = false from HS.out]; rintro e w' ⟨rfl, rfl⟩)
              go_ret2
              exact ⟨by rw [H.out, show ((UInt8.ofNat u).toNat : Int) = (u : Int) % 256 by simp]; rfl, hb⟩
            · have H := Lib.hid (rbRet_of (show Nm.readB (92 :: d :: r) = (0, 0) by simp only [Nm.readB, hd, hl, hq, hp, hsh]; simp))
              have HS := Lib.hid hsh
              have HP := Lib.hid hp
              clear hsh hp hd hq
              go_enter Tryd.func49, Tryd.ntmps49
              go_wp2_with fail
              refine (parseU_ok (d :: r.take 2) u HP.out hql _).mono ?_
              rintro e w1 ⟨rfl, hb⟩
              go_wp2_with (go_at_call 53; rw [← hun]; refine (shown_any (UInt8.ofNat u) _).mono ?_; rw [show decide (33 ≤ (UInt8.ofNat u).toNat ∧ (UInt8.ofNat u).toNat ≤ 126) = true from HS.out]; rintro e w' ⟨rfl, rfl⟩)
              go_ret2
              exact ⟨by rw [H.out]; rfl, hb⟩
          | _ =>
            have H := Lib.hid (rbRet_of (show Nm.readB (92 :: d :: r) = (0, 0) by simp only [Nm.readB, hd, hl, hq, hp]; simp))
            have hbad : ∀ u, Lib.parseUintB 8 (d :: r.take 2) ≠ .ok u := fun u e => by rw [hp] at e; cases e
            have HB := Lib.hid hbad
            clear hp hd hbad hq
            go_enter Tryd.func49, Tryd.ntmps49
            go_wp2_with fail
            refine (parseU_bad (d :: r.take 2) HB.out hql _ hv).mono ?_
            rintro e w1 ⟨T, N, u, rfl, hb⟩
            go_wp2
            go_ret2
            exact ⟨by rw [H.out]; rfl, hb⟩
        · have H := Lib.hid (rbRet_of (show Nm.readB (92 :: d :: r) = (0, 0) by simp only [Nm.readB, hd, hl]; simp))
          clear hd
          go_enter Tryd.func49, Tryd.ntmps49
          go_wp2
          go_ret2
          exact ⟨by rw [H.out]; rfl, Below.refl _ _⟩
  · have b1 : ((c.toNat : Int) != 92) = true := by rw [bne_iff_ne]; intro e; exact h92 (by rw [← UInt8.toNat_inj]; simpa using Int.ofNat.inj e)
    cases hsh : Nm.shown c
    · have H := Lib.hid (rbRet_of (show Nm.readB (c :: r) = (0, 0) by simp [Nm.readB, h92, hsh]))
      have HS := Lib.hid hsh
      clear hsh h92
      go_enter Tryd.func49, Tryd.ntmps49
      go_wp2_with (go_at_call 53; refine (shown_any c _).mono ?_; rw [show decide (33 ≤ c.toNat ∧ c.toNat ≤ 126) = false from HS.out]; rintro e w' ⟨rfl, rfl⟩)
      go_ret2
      exact ⟨by rw [H.out]; rfl, Below.refl _ _⟩
    · have H := Lib.hid (rbRet_of (show Nm.readB (c :: r) = (c, 1) by simp [Nm.readB, h92, hsh]))
      have HS := Lib.hid hsh
      clear hsh h92
      go_enter Tryd.func49, Tryd.ntmps49
      go_wp2_with (go_at_call 53; refine (shown_any c _).mono ?_; rw [show decide (33 ≤ c.toNat ∧ c.toNat ≤ 126) = true from HS.out]; rintro e w' ⟨rfl, rfl⟩)
      go_ret2
      exact ⟨by rw [H.out]; rfl, Below.refl _ _⟩
end Go.Proofs.YtiodfiegknkceaaDoor
