/- 4 texts put together: GpMath, FormMath, TgMath, Shelf. -/
import Derived.Shelf.Pu.Clone
import Derived.Test.YtdodamkndigjkaaProg
import Derived.Test.YtdodamkndigjkaaJB2
/- Records by name and type: the mathematics. -/
namespace Go.Proofs.Ytdodamkndigjkaa
namespace Mt
open Rd
structure Gr where
  name : List UInt8
  typ : Int
  rrs : List RR
def isK (n : List UInt8) (t : Int) (g : Gr) : Bool := decide (g.name = n ∧ g.typ = t)
def hasK (gs : List Gr) (n : List UInt8) (t : Int) : Bool := gs.any (isK n t)
def atK (gs : List Gr) (n : List UInt8) (t : Int) : Nat := gs.findIdx (isK n t)
def add (r : RR) (g : Gr) : Gr := { g with rrs := g.rrs ++ [r] }
def openK (gs : List Gr) (n : List UInt8) (t : Int) : List Gr := if hasK gs n t then gs else gs ++ [⟨n, t, []⟩]
def put (gs : List Gr) (r : RR) : List Gr := (openK gs (Nm.fold r.name) r.typ).modify (atK gs (Nm.fold r.name) r.typ) (add r)
def met (gs : List Gr) (r : RR) : Bool := gs.any fun g => g.rrs.any fun x => sameR x r
def step (gs : List Gr) (r : RR) : List Gr := if r.cls = 1 ∧ met gs r = false then put gs r else gs
def sets (l : List RR) : List Gr := l.foldl step []

theorem sets_snoc (l : List RR) (r : RR) : sets (l ++ [r]) = step (sets l) r := by simp [sets]
theorem sets_take {l : List RR} {k : Nat} (h : k < l.length) : sets (l.take (k + 1)) = step (sets (l.take k)) l[k] := by
  rw [List.take_succ_eq_append_getElem h, sets_snoc]
theorem isK_iff {n : List UInt8} {t : Int} {g : Gr} : isK n t g = true ↔ g.name = n ∧ g.typ = t := by simp [isK]
theorem atK_le (gs : List Gr) (n : List UInt8) (t : Int) : atK gs n t ≤ gs.length := List.findIdx_le_length
theorem atK_has {gs : List Gr} {n : List UInt8} {t : Int} (h : hasK gs n t = true) : atK gs n t < gs.length := by
  unfold hasK at h
  rw [List.any_eq_true] at h
  obtain ⟨x, hx, hp⟩ := h
  exact List.findIdx_lt_length_of_exists ⟨x, hx, hp⟩
theorem atK_not {gs : List Gr} {n : List UInt8} {t : Int} (h : hasK gs n t = false) : atK gs n t = gs.length := by
  unfold atK
  rw [List.findIdx_eq_length]
  intro x hx
  unfold hasK at h
  rw [List.any_eq_false] at h
  simpa using h x hx
theorem openK_len (gs : List Gr) (n : List UInt8) (t : Int) : atK gs n t < (openK gs n t).length := by
  unfold openK
  cases h : hasK gs n t with
  | true => simpa using atK_has h
  | false => simp [atK_not h]
theorem hasK_snoc (gs : List Gr) (g : Gr) (n : List UInt8) (t : Int) : hasK (gs ++ [g]) n t = (hasK gs n t || isK n t g) := by simp [hasK]
theorem atK_snoc {gs : List Gr} {g : Gr} {n : List UInt8} {t : Int} (h : hasK gs n t = true) : atK (gs ++ [g]) n t = atK gs n t := by
  have h2 := atK_has h
  unfold atK at h2 ⊢
  rw [List.findIdx_append, if_pos h2]
theorem atK_new {gs : List Gr} {g : Gr} {n : List UInt8} {t : Int} (h : hasK gs n t = false) (hg : isK n t g = true) : atK (gs ++ [g]) n t = gs.length := by
  unfold atK
  rw [List.findIdx_append, if_neg (by have := atK_not h; unfold atK at this; omega)]
  simp [List.findIdx_cons, hg]
/-- What is asked of a group hangs on its key alone. -/
theorem any_modify {gs : List Gr} {i : Nat} {r : RR} (p : Gr → Bool) (hp : ∀ g, p (add r g) = p g) : (gs.modify i (add r)).any p = gs.any p := by
  rw [Bool.eq_iff_iff, List.any_eq_true, List.any_eq_true]
  constructor
  · rintro ⟨x, hx, hq⟩
    obtain ⟨j, hj, rfl⟩ := List.mem_iff_getElem.1 hx
    rw [List.length_modify] at hj
    rw [List.getElem_modify] at hq
    refine ⟨gs[j], List.getElem_mem _, ?_⟩
    split at hq
    · rwa [hp] at hq
    · exact hq
  · rintro ⟨x, hx, hq⟩
    obtain ⟨j, hj, rfl⟩ := List.mem_iff_getElem.1 hx
    refine ⟨(gs.modify i (add r))[j]'(by rw [List.length_modify]; exact hj), List.getElem_mem _, ?_⟩
    rw [List.getElem_modify]
    split
    · rw [hp]; exact hq
    · exact hq
theorem hasK_modify (gs : List Gr) (i : Nat) (r : RR) (n : List UInt8) (t : Int) : hasK (gs.modify i (add r)) n t = hasK gs n t := any_modify (isK n t) (fun _ => rfl)
theorem findIdx_modify {gs : List Gr} {i : Nat} {r : RR} (p : Gr → Bool) (hp : ∀ g, p (add r g) = p g) : (gs.modify i (add r)).findIdx p = gs.findIdx p := by
  induction gs generalizing i with
  | nil => cases i <;> rfl
  | cons g gs ih =>
    cases i with
    | zero => simp [List.modify_zero_cons, List.findIdx_cons, hp]
    | succ i => simp [List.modify_succ_cons, List.findIdx_cons, ih]
theorem atK_modify (gs : List Gr) (i : Nat) (r : RR) (n : List UInt8) (t : Int) : atK (gs.modify i (add r)) n t = atK gs n t := findIdx_modify (isK n t) (fun _ => rfl)
theorem hasK_put (gs : List Gr) (r : RR) (n : List UInt8) (t : Int) : hasK (put gs r) n t = (hasK gs n t || decide (Nm.fold r.name = n ∧ r.typ = t)) := by
  unfold put
  rw [hasK_modify]
  unfold openK
  cases h : hasK gs (Nm.fold r.name) r.typ with
  | true =>
    rw [if_pos rfl]
    by_cases hd : Nm.fold r.name = n ∧ r.typ = t
    · obtain ⟨rfl, rfl⟩ := hd
      simp [h]
    · simp [hd]
  | false =>
    rw [if_neg (by simp), hasK_snoc]
    rfl
theorem atK_put {gs : List Gr} {r : RR} {n : List UInt8} {t : Int} (h : hasK gs n t = true) : atK (put gs r) n t = atK gs n t := by
  unfold put
  rw [atK_modify]
  unfold openK
  split
  · rfl
  · exact atK_snoc h
theorem atK_put_new {gs : List Gr} {r : RR} (h : hasK gs (Nm.fold r.name) r.typ = false) : atK (put gs r) (Nm.fold r.name) r.typ = gs.length := by
  unfold put
  rw [atK_modify]
  unfold openK
  rw [if_neg (by simp [h])]
  exact atK_new h (by simp [isK])
theorem openK_len_le (gs : List Gr) (n : List UInt8) (t : Int) : (openK gs n t).length ≤ gs.length + 1 := by
  unfold openK; split <;> simp
theorem put_len_le (gs : List Gr) (r : RR) : (put gs r).length ≤ gs.length + 1 := by
  unfold put; rw [List.length_modify]; exact openK_len_le _ _ _
theorem step_len_le (gs : List Gr) (r : RR) : (step gs r).length ≤ gs.length + 1 := by
  unfold step; split
  · exact put_len_le _ _
  · omega
theorem met_put (gs : List Gr) (r x : RR) : met (put gs r) x = (met gs x || sameR r x) := by
  have hlt := openK_len gs (Nm.fold r.name) r.typ
  have ho : met (openK gs (Nm.fold r.name) r.typ) x = met gs x := by
    unfold openK met
    split
    · rfl
    · simp
  rw [← ho]
  unfold put
  generalize openK gs (Nm.fold r.name) r.typ = G at *
  generalize atK gs (Nm.fold r.name) r.typ = i at *
  clear ho
  unfold met
  induction G generalizing i with
  | nil => simp at hlt
  | cons g G ih =>
    cases i with
    | zero => simp [List.modify_zero_cons, add, Bool.or_assoc, Bool.or_comm]
    | succ i =>
      have := ih i (by simpa using hlt)
      simp only [List.modify_succ_cons, List.any_cons, this, Bool.or_assoc]

/-- What holds of groups. -/
structure Ok (gs : List Gr) : Prop where
  keyed : ∀ g ∈ gs, ∀ x ∈ g.rrs, Nm.fold x.name = g.name ∧ x.typ = g.typ ∧ x.cls = 1
  full : ∀ g ∈ gs, g.rrs ≠ []
  apart : gs.Pairwise (fun a b => ¬ (a.name = b.name ∧ a.typ = b.typ))
theorem sameR_iff {a b : RR} : sameR a b = true ↔ foldR a = foldR b := by unfold sameR; simp
theorem sameR_key {a b : RR} (h : sameR a b = true) : Nm.fold a.name = Nm.fold b.name ∧ a.typ = b.typ ∧ a.cls = b.cls := by
  have h := sameR_iff.1 h
  unfold foldR at h
  injection h with h1 h2 h3
  exact ⟨h1, h2, h3⟩
theorem mem_modify {gs : List Gr} {i : Nat} {r : RR} {g : Gr} (h : g ∈ gs.modify i (add r)) : g ∈ gs ∨ ∃ hi : i < gs.length, g = add r gs[i] := by
  obtain ⟨j, hj, rfl⟩ := List.mem_iff_getElem.1 h
  rw [List.length_modify] at hj
  rw [List.getElem_modify]
  split
  · rename_i e; subst e; exact .inr ⟨hj, rfl⟩
  · exact .inl (List.getElem_mem _)
theorem apart_modify {gs : List Gr} {i : Nat} {r : RR} (h : gs.Pairwise (fun a b => ¬ (a.name = b.name ∧ a.typ = b.typ))) : (gs.modify i (add r)).Pairwise (fun a b => ¬ (a.name = b.name ∧ a.typ = b.typ)) := by
  rw [List.pairwise_iff_getElem] at h ⊢
  intro a b ha hb hab
  rw [List.length_modify] at ha hb
  have := h a b ha hb hab
  rw [List.getElem_modify, List.getElem_modify]
  split <;> split <;> exact this
theorem ok_put {gs : List Gr} {r : RR} (h : Ok gs) (hr : r.cls = 1) : Ok (put gs r) := by
  have hlt := openK_len gs (Nm.fold r.name) r.typ
  have hk : ∀ hi : atK gs (Nm.fold r.name) r.typ < (openK gs (Nm.fold r.name) r.typ).length, (openK gs (Nm.fold r.name) r.typ)[atK gs (Nm.fold r.name) r.typ].name = Nm.fold r.name ∧ (openK gs (Nm.fold r.name) r.typ)[atK gs (Nm.fold r.name) r.typ].typ = r.typ := by
    intro hi
    cases hh : hasK gs (Nm.fold r.name) r.typ with
    | true =>
      have e : openK gs (Nm.fold r.name) r.typ = gs := by unfold openK; rw [if_pos hh]
      simp only [e]
      exact isK_iff.1 (List.findIdx_getElem (p := isK (Nm.fold r.name) r.typ) (w := atK_has hh))
    | false =>
      have e : openK gs (Nm.fold r.name) r.typ = gs ++ [⟨Nm.fold r.name, r.typ, []⟩] := by unfold openK; rw [if_neg (by simp [hh])]
      simp only [e, atK_not hh]
      simp
  have hm : ∀ g ∈ openK gs (Nm.fold r.name) r.typ, g ∈ gs ∨ (g.rrs = [] ∧ g = ⟨Nm.fold r.name, r.typ, []⟩ ∧ hasK gs (Nm.fold r.name) r.typ = false) := by
    unfold openK
    intro g hg
    split at hg
    · exact .inl hg
    · rename_i e
      rcases List.mem_append.1 hg with h1 | h1
      · exact .inl h1
      · rw [List.mem_singleton] at h1; subst h1; exact .inr ⟨rfl, rfl, by simpa using e⟩
  have hap : (openK gs (Nm.fold r.name) r.typ).Pairwise (fun a b => ¬ (a.name = b.name ∧ a.typ = b.typ)) := by
    unfold openK
    split
    · exact h.apart
    · rename_i e
      rw [List.pairwise_append]
      refine ⟨h.apart, by simp, fun a ha b hb => ?_⟩
      rw [List.mem_singleton] at hb
      subst hb
      intro hc
      apply e
      unfold hasK
      rw [List.any_eq_true]
      exact ⟨a, ha, isK_iff.2 hc⟩
  refine ⟨?_, ?_, apart_modify hap⟩
  · intro g hg x hx
    rcases mem_modify hg with h1 | ⟨hi, rfl⟩
    · rcases hm g h1 with h2 | ⟨h2, _⟩
      · exact h.keyed g h2 x hx
      · rw [h2] at hx; cases hx
    · obtain ⟨k1, k2⟩ := hk hi
      simp only [add, List.mem_append, List.mem_singleton] at hx ⊢
      rcases hx with hx | rfl
      · rcases hm _ (List.getElem_mem hi) with h2 | ⟨h2, _⟩
        · exact h.keyed _ h2 x hx
        · rw [h2] at hx; cases hx
      · exact ⟨k1.symm, k2.symm, hr⟩
  · intro g hg
    rcases mem_modify hg with h1 | ⟨hi, rfl⟩
    · rcases hm g h1 with h2 | ⟨h2, h3, h4⟩
      · exact h.full g h2
      · exfalso
        have hg' : g ∈ (openK gs (Nm.fold r.name) r.typ).modify (atK gs (Nm.fold r.name) r.typ) (add r) := hg
        obtain ⟨j, hj, hje⟩ := List.mem_iff_getElem.1 hg'
        rw [List.length_modify] at hj
        rw [List.getElem_modify] at hje
        have e : openK gs (Nm.fold r.name) r.typ = gs ++ [⟨Nm.fold r.name, r.typ, []⟩] := by unfold openK; rw [if_neg (by simp [h4])]
        by_cases hji : atK gs (Nm.fold r.name) r.typ = j
        · rw [if_pos hji] at hje
          rw [← hje] at h2
          simp [add] at h2
        · rw [if_neg hji] at hje
          simp only [e, List.length_append, List.length_singleton] at hj
          rw [atK_not h4] at hji
          have hj2 : j < gs.length := by omega
          have : g ∈ gs := by
            rw [← hje]
            simp only [e]
            rw [List.getElem_append_left hj2]
            exact List.getElem_mem _
          unfold hasK at h4
          rw [List.any_eq_false] at h4
          exact h4 g this (isK_iff.2 (by rw [h3]; exact ⟨rfl, rfl⟩))
    · simp [add]
theorem ok_step {gs : List Gr} {r : RR} (h : Ok gs) : Ok (step gs r) := by
  unfold step
  split
  · rename_i hc; exact ok_put h hc.1
  · exact h
theorem ok_foldl : ∀ (l : List RR) (gs : List Gr), Ok gs → Ok (l.foldl step gs)
  | [], _, h => h
  | _ :: l, _, h => ok_foldl l _ (ok_step h)
theorem ok_sets (l : List RR) : Ok (sets l) := ok_foldl l [] ⟨by simp, by simp, by simp⟩
theorem sets_len (l : List RR) : (sets l).length ≤ l.length := by
  have : ∀ (l : List RR) (gs : List Gr), (l.foldl step gs).length ≤ gs.length + l.length := by
    intro l
    induction l with
    | nil => intro gs; simp
    | cons r l ih =>
      intro gs
      rw [List.foldl_cons]
      have h1 := ih (step gs r)
      have h2 := step_len_le gs r
      rw [List.length_cons]
      omega
  simpa [sets] using this l []
/-- Whom a group has, it has of the list. -/
theorem mem_sets (l : List RR) : ∀ g ∈ sets l, ∀ x ∈ g.rrs, x ∈ l := by
  have key : ∀ (l pre : List RR) (gs : List Gr), (∀ g ∈ gs, ∀ x ∈ g.rrs, x ∈ pre) → ∀ g ∈ l.foldl step gs, ∀ x ∈ g.rrs, x ∈ pre ++ l := by
    intro l
    induction l with
    | nil => intro pre gs h; simpa using h
    | cons r l ih =>
      intro pre gs h
      rw [List.foldl_cons]
      have := ih (pre ++ [r]) (step gs r) (by
        intro g hg x hx
        have ho : ∀ g ∈ openK gs (Nm.fold r.name) r.typ, ∀ x ∈ g.rrs, x ∈ pre := by
          intro g h1 x hx
          unfold openK at h1
          split at h1
          · exact h g h1 x hx
          · rcases List.mem_append.1 h1 with h2 | h2
            · exact h g h2 x hx
            · rw [List.mem_singleton] at h2; subst h2; cases hx
        unfold step at hg
        split at hg
        · unfold put at hg
          rcases mem_modify hg with h1 | ⟨hi, rfl⟩
          · exact List.mem_append_left _ (ho g h1 x hx)
          · simp only [add, List.mem_append, List.mem_singleton] at hx ⊢
            rcases hx with hx | rfl
            · exact .inl (ho _ (List.getElem_mem hi) x hx)
            · exact .inr rfl
        · exact List.mem_append_left _ (h g hg x hx))
      simpa [List.append_assoc] using this
  simpa [sets] using key l [] [] (by simp)
theorem rrs_len (l : List RR) : ∀ g ∈ sets l, g.rrs.length ≤ l.length := by
  have key : ∀ (l : List RR) (gs : List Gr) (n : Nat), (∀ g ∈ gs, g.rrs.length ≤ n) → ∀ g ∈ l.foldl step gs, g.rrs.length ≤ n + l.length := by
    intro l
    induction l with
    | nil => intro gs n h; simpa using h
    | cons r l ih =>
      intro gs n h g hg
      rw [List.foldl_cons] at hg
      have := ih (step gs r) (n + 1) (by
        intro g hg
        have ho : ∀ g ∈ openK gs (Nm.fold r.name) r.typ, g.rrs.length ≤ n := by
          intro g h1
          unfold openK at h1
          split at h1
          · exact h g h1
          · rcases List.mem_append.1 h1 with h2 | h2
            · exact h g h2
            · rw [List.mem_singleton] at h2; subst h2; exact Nat.zero_le _
        unfold step at hg
        split at hg
        · unfold put at hg
          rcases mem_modify hg with h1 | ⟨hi, rfl⟩
          · exact Nat.le_succ_of_le (ho g h1)
          · have := ho _ (List.getElem_mem hi)
            simp only [add, List.length_append, List.length_singleton]
            omega
        · exact Nat.le_succ_of_le (h g hg)) g hg
      rw [List.length_cons]
      omega
  simpa [sets] using key l [] 0 (by simp)
/-- Who was met has its like in the group of its key. -/
theorem met_at {gs : List Gr} (h : Ok gs) (r : RR) : met gs r = (hasK gs (Nm.fold r.name) r.typ && ((gs[atK gs (Nm.fold r.name) r.typ]?).elim false fun g => g.rrs.any fun x => sameR x r)) := by
  rw [Bool.eq_iff_iff, Bool.and_eq_true]
  constructor
  · intro hm
    unfold met at hm
    rw [List.any_eq_true] at hm
    obtain ⟨g, hg, hx⟩ := hm
    have hx' := hx
    rw [List.any_eq_true] at hx
    obtain ⟨x, hx1, hx2⟩ := hx
    obtain ⟨k1, k2, _⟩ := h.keyed g hg x hx1
    obtain ⟨s1, s2, _⟩ := sameR_key hx2
    have hk : isK (Nm.fold r.name) r.typ g = true := isK_iff.2 ⟨by rw [← k1, s1], by rw [← k2, s2]⟩
    have hh : hasK gs (Nm.fold r.name) r.typ = true := by unfold hasK; rw [List.any_eq_true]; exact ⟨g, hg, hk⟩
    refine ⟨hh, ?_⟩
    have hlt := atK_has hh
    have hg2 := isK_iff.1 (List.findIdx_getElem (p := isK (Nm.fold r.name) r.typ) (w := hlt))
    obtain ⟨j, hj, rfl⟩ := List.mem_iff_getElem.1 hg
    have hk' := isK_iff.1 hk
    have e : j = atK gs (Nm.fold r.name) r.typ := by
      rcases Nat.lt_trichotomy j (atK gs (Nm.fold r.name) r.typ) with hl | he | hl
      · exact absurd hk (by simpa using List.not_of_lt_findIdx hl)
      · exact he
      · exact absurd ⟨hg2.1.trans hk'.1.symm, hg2.2.trans hk'.2.symm⟩ (List.pairwise_iff_getElem.1 h.apart _ _ hlt hj hl)
    rw [← e, List.getElem?_eq_getElem hj]
    exact hx'
  · rintro ⟨hh, hx⟩
    have hlt := atK_has hh
    rw [List.getElem?_eq_getElem hlt] at hx
    unfold met
    rw [List.any_eq_true]
    exact ⟨_, List.getElem_mem hlt, hx⟩
end Mt
end Go.Proofs.Ytdodamkndigjkaa

/- Data that is put together of names: where the names stand. -/
namespace Go.Proofs.Ytdodamkndigjkaa.Rd
open Go.Proofs.Ytdodamkndigjkaa.Nm

theorem partsD_none {t : Int} {d : List UInt8} (h : parts t d = none) : dataOk t d = false ∧ partsD t d = [] := by
  unfold dataOk partsD; rw [h]; exact ⟨rfl, rfl⟩
theorem partsD_some {t : Int} {d : List UInt8} {ps : List (Nat × Nat)} (h : parts t d = some ps) : dataOk t d = true ∧ partsD t d = ps := by
  unfold dataOk partsD; rw [h]; exact ⟨rfl, rfl⟩
theorem parts_long {t : Int} {d : List UInt8} (hl : 1000 < d.length) : parts t d = none := by unfold parts; rw [if_pos hl]
def ofRun (d : List UInt8) (b : Nat) (M : Option (List (Nat × Nat) × Nat)) : Option (List (Nat × Nat)) := match M with
  | none => none
  | some (ps, e) => if e + b = d.length then some ps else none
theorem run_zero {d : List UInt8} {n e : Nat} (h : nsz (d.drop e) = 0) : run d (n + 1) e = none := by simp [run, h]
theorem run_succ {d : List UInt8} {n e z : Nat} (h : nsz (d.drop e) = z) (h0 : z ≠ 0) : run d (n + 1) e = (run d n (e + z)).map (fun y => ((e, z) :: y.1, y.2)) := by
  simp only [run, h]
  rw [if_neg h0]
theorem parts_lay {t : Int} {d : List UInt8} {a n b : Nat} (h : lay t = some (a, n, b)) (h16 : t ≠ 16) (hl : ¬ 1000 < d.length) :
    parts t d = ofRun d b (run d n a) := by
  unfold parts ofRun
  rw [if_neg hl, if_neg h16, h] <;> rfl
theorem parts_plain {t : Int} {d : List UInt8} {a : Nat} (h : lay t = some (a, 0, 0)) (h16 : t ≠ 16) (hl : ¬ 1000 < d.length) : parts t d = if a = d.length then some [] else none := by
  rw [parts_lay h h16 hl]; rfl
theorem parts_other {t : Int} {d : List UInt8} (h : lay t = none) (h16 : t ≠ 16) (hl : ¬ 1000 < d.length) : parts t d = some [] := by
  unfold parts
  rw [if_neg hl, if_neg h16, h]
theorem parts_txt {d : List UInt8} (hl : ¬ 1000 < d.length) : parts 16 d = if texts d then some [] else none := by
  unfold parts
  rw [if_neg hl, if_pos rfl]

theorem prefix_free : ∀ (f : Nat) (a b : List UInt8), a.length ≤ f → validU a = true → validU (a ++ b) = true → b = []
  | 0, a, b, h, ha, _ => by
    obtain rfl := List.length_eq_zero_iff.1 (Nat.le_zero.1 h)
    rw [validU_nil] at ha; cases ha
  | f + 1, [], b, _, ha, _ => by rw [validU_nil] at ha; cases ha
  | f + 1, c :: r, b, h, ha, hb => by
    rw [validU_cons] at ha
    rw [List.cons_append, validU_cons] at hb
    by_cases h0 : c = 0
    · rw [if_pos h0] at ha hb
      have h1 : r = [] := by simpa using ha
      subst h1
      simpa using hb
    · rw [if_neg h0] at ha hb
      by_cases h1 : 63 < c.toNat ∨ r.length < c.toNat
      · rw [if_pos h1] at ha; cases ha
      · rw [if_neg h1] at ha
        rw [if_neg (by rw [List.length_append]; omega), List.drop_append_of_le_length (by omega)] at hb
        exact prefix_free f (r.drop c.toNat) b (by rw [List.length_drop]; simp at h; omega) ha hb
theorem valid_U {l : List UInt8} (h : valid l = true) : validU l = true := by
  have := valid_len h
  rw [← valid_of_short (by omega)]; exact h
theorem nsz_valid {l : List UInt8} (h : valid l = true) : nsz l = l.length := by
  rcases nsz_cases l with ⟨_, hn⟩ | ⟨k, hk, hlt, hv, _, _⟩
  · have hl : 0 < l.length := by
      cases l with
      | nil => have := valid_U h; rw [validU_nil] at this; cases this
      | cons => simp
    have := hn (l.length - 1) (by omega)
    rw [show l.length - 1 + 1 = l.length by omega, List.take_length, h] at this
    cases this
  · have h1 := prefix_free _ (l.take (k + 1)) (l.drop (k + 1)) (Nat.le_refl _) (valid_U hv) (by rw [List.take_append_drop]; exact valid_U h)
    have := List.drop_eq_nil_iff.1 h1
    omega
theorem nsz_append {l r : List UInt8} (h : nsz l ≠ 0) : nsz (l ++ r) = nsz l := by
  rcases nsz_cases l with ⟨h0, _⟩ | ⟨k, hk, hlt, hv, _, hj⟩
  · exact absurd h0 h
  · rw [hk]
    refine nsz_some (by rw [List.length_append]; omega) (by rw [List.take_append_of_le_length (by omega)]; exact hv) (fun j hjk => ?_)
    rw [List.take_append_of_le_length (by omega)]
    exact hj j hjk
theorem nsz_take {l : List UInt8} (c : Nat) (h : nsz l ≠ 0) : nsz (l.take c) = if nsz l ≤ c then nsz l else 0 := by
  rcases nsz_cases l with ⟨h0, _⟩ | ⟨k, hk, hlt, hv, _, hj⟩
  · exact absurd h0 h
  · rw [hk]
    split
    · rename_i hc
      refine nsz_some (by rw [List.length_take]; omega) (by rw [List.take_take, Nat.min_eq_left (by omega)]; exact hv) (fun j hjk => ?_)
      rw [List.take_take, Nat.min_eq_left (by omega)]
      exact hj j hjk
    · rename_i hc
      refine nsz_none (fun j hjc => ?_)
      rw [List.length_take] at hjc
      rw [List.take_take, Nat.min_eq_left (by omega)]
      exact hj j (by omega)
theorem run_append {r : List UInt8} : ∀ (n a : Nat) {d : List UInt8} {ps : List (Nat × Nat)} {e : Nat}, a ≤ d.length → run d n a = some (ps, e) → run (d ++ r) n a = some (ps, e)
  | 0, a, d, ps, e, _, h => h
  | n + 1, a, d, ps, e, ha, h => by
    unfold run at h ⊢
    have hz : nsz (d.drop a) ≠ 0 := fun hz => by rw [if_pos hz] at h; cases h
    rw [if_neg hz] at h
    have hap : nsz ((d ++ r).drop a) = nsz (d.drop a) := by rw [List.drop_append_of_le_length ha, nsz_append hz]
    rw [hap, if_neg hz]
    cases hr : run d n (a + nsz (d.drop a)) with
    | none => rw [hr] at h; cases h
    | some x =>
      obtain ⟨ps', e'⟩ := x
      rw [run_append n _ (by have := (nsz_le (d.drop a)).1; rw [List.length_drop] at this; omega) hr]
      rw [hr] at h
      exact h
theorem run_take {c : Nat} : ∀ (n a : Nat) {d : List UInt8} {ps : List (Nat × Nat)} {e : Nat}, run d n a = some (ps, e) → (∃ ps', run (d.take c) n a = some (ps', e) ∧ (n = 0 ∨ e ≤ c)) ∨ run (d.take c) n a = none
  | 0, a, d, ps, e, h => by
    unfold run at h ⊢
    obtain ⟨rfl, rfl⟩ : [] = ps ∧ a = e := by simpa using h
    exact .inl ⟨_, rfl, .inl rfl⟩
  | n + 1, a, d, ps, e, h => by
    unfold run at h ⊢
    have hz : nsz (d.drop a) ≠ 0 := fun hz => by rw [if_pos hz] at h; cases h
    rw [if_neg hz] at h
    rw [List.drop_take, nsz_take _ hz]
    by_cases hc : nsz (d.drop a) ≤ c - a
    · rw [if_pos hc, if_neg hz]
      cases hr : run d n (a + nsz (d.drop a)) with
      | none => rw [hr] at h; cases h
      | some x =>
        obtain ⟨ps', e'⟩ := x
        rw [hr] at h
        obtain ⟨rfl, rfl⟩ : _ ∧ e' = e := by simpa using h
        rcases run_take (c := c) n _ hr with ⟨ps2, h2, h3⟩ | h2
        · rw [h2]
          refine .inl ⟨_, rfl, .inr ?_⟩
          rcases h3 with rfl | h3
          · unfold run at hr
            obtain ⟨rfl, rfl⟩ : [] = ps' ∧ a + nsz (d.drop a) = e' := by simpa using hr
            omega
          · exact h3
        · rw [h2]; exact .inr rfl
    · rw [if_neg hc, if_pos rfl]; exact .inr rfl
/-- Data of a form: a byte more, or less, and it is none. -/
theorem parts_form {t : Int} {d : List UInt8} {a n b : Nat} {ps : List (Nat × Nat)} (h16 : t ≠ 16) (hl : lay t = some (a, n, b)) (hd : d.length ≤ 1000) (he : run d n a = some (ps, d.length - b)) (hb : b ≤ d.length) : parts t d = some ps := by
  unfold parts
  rw [if_neg (by omega), if_neg h16, hl]
  simp only [he]
  rw [if_pos (by omega)]
theorem dataOk_form {t : Int} {d : List UInt8} {ps : List (Nat × Nat)} (h : parts t d = some ps) : dataOk t d = true ∧ partsD t d = ps := partsD_some h
theorem dataOk_off {t : Int} {d : List UInt8} {a n b : Nat} (h16 : t ≠ 16) (hl : lay t = some (a, n, b)) (h : ∀ ps e, run d n a = some (ps, e) → e + b ≠ d.length) : dataOk t d = false := by
  unfold dataOk parts
  by_cases hlen : 1000 < d.length
  · rw [if_pos hlen]; rfl
  · rw [if_neg hlen, if_neg h16, hl]
    simp only
    cases hr : run d n a with
    | none => rfl
    | some x =>
      obtain ⟨ps, e⟩ := x
      simp only
      rw [if_neg (h ps e hr)]; rfl
theorem more_off {t : Int} {d : List UInt8} {a n b : Nat} {ps : List (Nat × Nat)} (h16 : t ≠ 16) (hl : lay t = some (a, n, b)) (ha : a ≤ d.length) (hb : b ≤ d.length) (he : run d n a = some (ps, d.length - b)) (x : UInt8) : dataOk t (d ++ [x]) = false := by
  refine dataOk_off h16 hl (fun ps' e' h => ?_)
  rw [run_append n a ha he] at h
  obtain ⟨rfl, rfl⟩ : ps = ps' ∧ d.length - b = e' := by simpa using h
  simp
  omega
theorem less_off {t : Int} {d : List UInt8} {a n b c : Nat} {ps : List (Nat × Nat)} (h16 : t ≠ 16) (hl : lay t = some (a, n, b)) (hb : b ≤ d.length) (he : run d n a = some (ps, d.length - b)) (hc : c < d.length) : dataOk t (d.take c) = false := by
  refine dataOk_off h16 hl (fun ps' e' h => ?_)
  rcases run_take (c := c) n a he with ⟨ps2, h2, _⟩ | h2
  · rw [h2] at h
    obtain ⟨_, rfl⟩ : ps2 = ps' ∧ d.length - b = e' := by simpa using h
    rw [List.length_take]
    omega
  · rw [h2] at h; cases h

/-! The forms. -/
theorem ne_nil_of_valid {l : List UInt8} (h : valid l = true) : l.length ≠ 0 := fun e => by
  obtain rfl := List.length_eq_zero_iff.1 e
  have := valid_U h; rw [validU_nil] at this; cases this
theorem run_one {q l r : List UInt8} (h : valid l = true) : run (q ++ l ++ r) 1 q.length = some ([(q.length, l.length)], q.length + l.length) := by
  have h1 : nsz ((q ++ l ++ r).drop q.length) = l.length := by
    rw [List.append_assoc, List.drop_left]
    rw [nsz_append (by rw [nsz_valid h]; exact ne_nil_of_valid h), nsz_valid h]
  unfold run
  rw [h1, if_neg (ne_nil_of_valid h)]
  rfl
theorem run_two {l m r : List UInt8} (h : valid l = true) (h' : valid m = true) : run (l ++ m ++ r) 2 0 = some ([(0, l.length), (l.length, m.length)], l.length + m.length) := by
  have h1 : nsz ((l ++ m ++ r).drop 0) = l.length := by
    rw [List.drop_zero, List.append_assoc]
    rw [nsz_append (by rw [nsz_valid h]; exact ne_nil_of_valid h), nsz_valid h]
  have h2 := run_one (q := l) (l := m) (r := r) h'
  unfold run
  rw [h1, if_neg (ne_nil_of_valid h), Nat.zero_add, h2]
  rfl
theorem parts_name {t : Int} {l : List UInt8} (ht : t = 2 ∨ t = 5 ∨ t = 12) (h : valid l = true) : parts t l = some [(0, l.length)] := by
  have h1 := run_one (q := []) (l := l) (r := []) h
  rw [List.append_nil, List.nil_append] at h1
  refine parts_form (a := 0) (n := 1) (b := 0) (by omega) (by rcases ht with rfl | rfl | rfl <;> rfl) (by have := valid_len h; omega) (by simpa using h1) (by omega)
theorem parts_mx {l : List UInt8} (x y : UInt8) (h : valid l = true) : parts 15 (x :: y :: l) = some [(2, l.length)] := by
  have h1 := run_one (q := [x, y]) (l := l) (r := []) h
  rw [List.append_nil] at h1
  refine parts_form (a := 2) (n := 1) (b := 0) (by omega) rfl (by have := valid_len h; simp; omega) ?_ (by omega)
  have e : ([x, y] ++ l).length - 0 = [x, y].length + l.length := by simp; omega
  exact (show run ([x, y] ++ l) 1 2 = some ([(2, l.length)], ([x, y] ++ l).length - 0) from by rw [e]; exact h1)
theorem parts_soa {l m r : List UInt8} (h : valid l = true) (h' : valid m = true) (hr : r.length = 20) : parts 6 (l ++ m ++ r) = some [(0, l.length), (l.length, m.length)] := by
  have h1 := run_two (r := r) h h'
  have e : (l ++ m ++ r).length - 20 = l.length + m.length := by simp; omega
  exact parts_form (a := 0) (n := 2) (b := 20) (by omega) rfl (by have := valid_len h; have := valid_len h'; simp; omega) (by rw [e]; exact h1) (by simp; omega)

theorem four_len (x : Int) : (four x).length = 4 := rfl
theorem number_four {x : Int} (h0 : 0 ≤ x) (h1 : x < 4294967296) : (number (four x) : Int) = x := by
  simp only [number, four, num4, List.getD_cons_zero, List.getD_cons_succ, UInt8.toNat_ofNat']
  omega
end Go.Proofs.Ytdodamkndigjkaa.Rd

/- What a record leads to: plain mathematics. -/
namespace Go.Proofs.Ytdodamkndigjkaa
namespace Rd
theorem lay16 : lay 16 = none := rfl
theorem lay_one {t : Int} {a b : Nat} (h : lay t = some (a, 1, b)) : b = 0 := by
  unfold lay at h
  repeat (split at h; · first | (simp at h; done) | (simp at h; omega))
  cases h
theorem lay_ne16 {t : Int} {a n b : Nat} (h : lay t = some (a, n, b)) : t ≠ 16 := fun e => by rw [e, lay16] at h; cases h
theorem parts_len {t : Int} {d : List UInt8} {a n b : Nat} {ps : List (Nat × Nat)} (h : lay t = some (a, n, b)) (hp : parts t d = some ps) : ∃ e, run d n a = some (ps, e) ∧ e + b = d.length ∧ d.length ≤ 1000 := by
  have hl : ¬ 1000 < d.length := fun hl => by rw [parts_long hl] at hp; cases hp
  rw [parts_lay h (lay_ne16 h) hl] at hp
  cases hr : run d n a with
  | none => rw [hr] at hp; cases hp
  | some x =>
    obtain ⟨ps', e⟩ := x
    rw [hr] at hp
    simp only [ofRun] at hp
    split at hp
    · rename_i he
      cases hp
      exact ⟨e, rfl, he, by omega⟩
    · cases hp
theorem target_one {r : RR} {a b : Nat} (h : lay r.typ = some (a, 1, b)) : target r = if dataOk r.typ r.data then some (r.data.drop a) else none := by
  unfold target dataOk
  cases hp : parts r.typ r.data with
  | none => rfl
  | some ps =>
    obtain ⟨e, hr, he, _⟩ := parts_len h hp
    have hb := lay_one h
    have h0 : nsz (r.data.drop a) ≠ 0 := fun h0 => by rw [run_zero h0] at hr; cases hr
    rw [run_succ rfl h0] at hr
    simp only [run, Option.map_some, Option.some.injEq, Prod.mk.injEq] at hr
    obtain ⟨rfl, he2⟩ := hr
    simp only [Option.isSome_some, if_true]
    rw [List.take_of_length_le (by rw [List.length_drop]; omega)]
theorem lay_cases (t : Int) : lay t = none ∨ (∃ a n b, lay t = some (a, n, b) ∧ n ≠ 1) ∨ ∃ a, lay t = some (a, 1, 0) := by
  cases h : lay t with
  | none => exact .inl rfl
  | some x =>
    obtain ⟨a, n, b⟩ := x
    by_cases e : n = 1
    · subst e
      have := lay_one h
      subst this
      exact .inr (.inr ⟨a, rfl⟩)
    · exact .inr (.inl ⟨a, n, b, rfl, e⟩)
theorem parts_other16 {t : Int} {d : List UInt8} {ps : List (Nat × Nat)} (h : lay t = none) (hp : parts t d = some ps) : ps = [] := by
  unfold parts at hp
  rw [h] at hp
  split at hp
  · cases hp
  · split at hp
    · split at hp
      · cases hp; rfl
      · cases hp
    · cases hp; rfl
theorem target_other {r : RR} (h : lay r.typ = none ∨ ∃ a n b, lay r.typ = some (a, n, b) ∧ n ≠ 1) : target r = none := by
  unfold target
  cases hp : parts r.typ r.data with
  | none => rfl
  | some ps =>
    rcases h with h | ⟨a, n, b, h, hn⟩
    · rw [parts_other16 h hp]
    · obtain ⟨e, hr, he, _⟩ := parts_len h hp
      have := (run_bound _ _ _ hr).2.2.2.1
      match ps, this with
      | [], _ => rfl
      | [x], h => exact absurd h.symm hn
      | _ :: _ :: _, _ => rfl
theorem target_len {r : RR} {l : List UInt8} (h : target r = some l) : l.length ≤ r.data.length := by
  unfold target at h
  split at h
  · cases h; rw [List.length_take, List.length_drop]; omega
  · cases h
theorem parts_bound {t : Int} {d : List UInt8} {ps : List (Nat × Nat)} (hp : parts t d = some ps) : d.length ≤ 1000 ∧ ∀ p ∈ ps, p.1 + p.2 ≤ d.length := by
  have hl : ¬ 1000 < d.length := fun hl => by rw [parts_long hl] at hp; cases hp
  refine ⟨by omega, fun p hpm => ?_⟩
  cases h : lay t with
  | none => rw [parts_other16 h hp] at hpm; cases hpm
  | some x =>
    obtain ⟨a, n, b⟩ := x
    obtain ⟨e, hr, he, _⟩ := parts_len h hp
    have := ((run_bound _ _ _ hr).2.2.2.2 p hpm).2.1
    omega
end Rd
end Go.Proofs.Ytdodamkndigjkaa

/- The shelf's layings at this translation, in plain words: a table of numbers each, and one theorem, a field a fact of the translation. -/
namespace Go.Proofs.Ytdodamkndigjkaa
open Go.Shelf
def Try.laysPu25_ren : Go.Shelf.Ren := ⟨fun | 25 => 92 | n => n, fun | 9 => 9 | 3 => 3 | 4 => 4 | 37 => 22 | 0 => 0 | 47 => 162 | 5 => 5 | n => n, fun | n => n⟩
theorem Try.laysPu25 : Go.Proofs.LaysPu.n25 Try.prog Try.laysPu25_ren := {
  mixed := by kernel_rfl
  f25 := Try.func92.trans (congrArg some (by kernel_rfl))
  t0 := Try.underlying0
  a0 := Try.isAgg0
  z0 := Try.sizeOf0
  v0 := Try.zeroValue0
  i0 := by kernel_rfl
  t3 := Try.underlying3
  a3 := Try.isAgg3
  z3 := Try.sizeOf3
  v3 := Try.zeroValue3
  i3 := by kernel_rfl
  t4 := Try.underlying4
  a4 := Try.isAgg4
  z4 := Try.sizeOf4
  v4 := Try.zeroValue4
  i4 := by kernel_rfl
  t5 := Try.underlying5
  a5 := Try.isAgg5
  z5 := Try.sizeOf5
  v5 := Try.zeroValue5
  i5 := by kernel_rfl
  t9 := Try.underlying9
  a9 := Try.isAgg9
  z9 := Try.sizeOf9
  v9 := Try.zeroValue9
  i9 := by kernel_rfl
  t37 := Try.underlying22
  a37 := Try.isAgg22
  z37 := Try.sizeOf22
  v37 := Try.zeroValue22
  i37 := by kernel_rfl
  t47 := Try.underlying162
  a47 := Try.isAgg162
  z47 := Try.sizeOf162
  v47 := Try.zeroValue162
  i47 := by kernel_rfl }
end Go.Proofs.Ytdodamkndigjkaa
