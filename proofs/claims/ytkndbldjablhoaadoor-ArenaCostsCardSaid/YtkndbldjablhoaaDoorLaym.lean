/- The memory as pieces, one behind the other. -/
import Derived.Test.YtkndbldjablhoaaDoorChm
import Derived.Test.YtkndbldjablhoaaDoorAslide
set_option maxRecDepth 100000
namespace Go.Proofs.YtkndbldjablhoaaDoor
namespace Ar
structure Pc where
  free : Bool
  owner : Nat
  size : Nat
  data : List UInt8
def Pc.takes (p : Pc) : Nat := p.data.length + 8
def Pc.hd (p : Pc) (a : Nat) : Head := ⟨p.free, p.owner, p.size, a⟩
def Pc.bytes (p : Pc) (a : Nat) : List UInt8 := byte8 (p.hd a).word ++ p.data
structure Pc.Ok (p : Pc) : Prop where
  m16 : p.takes % 16 = 0
  ge : 16 ≤ p.takes
  own : p.owner < 2097152
  fr : p.free = true → p.size = p.takes
  bl : p.free = false → p.size ≤ 4096 ∧ cost p.size = p.takes
def lay : Nat → List Pc → List UInt8
  | _, [] => []
  | a, p :: r => p.bytes a ++ lay p.takes r
def total : List Pc → Nat
  | [] => 0
  | p :: r => p.takes + total r
def lastT : Nat → List Pc → Nat
  | a, [] => a
  | _, p :: r => lastT p.takes r
theorem bytes_len (p : Pc) (a : Nat) : (p.bytes a).length = p.takes := by unfold Pc.bytes Pc.takes byte8; rw [List.length_append, lastB_len]; omega
theorem total_app : ∀ xs ys, total (xs ++ ys) = total xs + total ys
  | [], ys => by simp [total]
  | p :: r, ys => by simp [total, total_app r ys, Nat.add_assoc]
theorem lay_len : ∀ a xs, (lay a xs).length = total xs
  | _, [] => rfl
  | a, p :: r => by simp [lay, total, bytes_len, lay_len]
theorem lay_app : ∀ a xs ys, lay a (xs ++ ys) = lay a xs ++ lay (lastT a xs) ys
  | _, [], _ => rfl
  | a, p :: r, ys => by simp [lay, lastT, lay_app]
theorem lastT_app : ∀ a xs ys, lastT a (xs ++ ys) = lastT (lastT a xs) ys
  | _, [], _ => rfl
  | a, p :: r, ys => by simp [lastT, lastT_app]
/-- Piece p begins at v. -/
def At : List Pc → Nat → Pc → Prop
  | [], _, _ => False
  | q :: ys, v, p => (v = 0 ∧ p = q) ∨ ∃ v', v = q.takes + v' ∧ At ys v' p
theorem at_app : ∀ (xs ys : List Pc) (v : Nat) (p : Pc), At (xs ++ ys) v p ↔ At xs v p ∨ ∃ v', v = total xs + v' ∧ At ys v' p
  | [], ys, v, p => by simp [At, total]
  | q :: xs, ys, v, p => by
    show (_ ∨ _) ↔ ((_ ∨ _) ∨ _)
    constructor
    · rintro (h | ⟨v', rfl, h⟩)
      · exact .inl (.inl h)
      · rcases (at_app xs ys v' p).1 h with k | ⟨v2, e, k⟩
        · exact .inl (.inr ⟨v', rfl, k⟩)
        · exact .inr ⟨v2, by simp [total, e, Nat.add_assoc], k⟩
    · rintro ((h | ⟨v', rfl, h⟩) | ⟨v2, rfl, h⟩)
      · exact .inl h
      · exact .inr ⟨v', rfl, (at_app xs ys v' p).2 (.inl h)⟩
      · exact .inr ⟨total xs + v2, by simp [total, Nat.add_assoc], (at_app xs ys _ p).2 (.inr ⟨v2, rfl, h⟩)⟩
theorem at_split : ∀ {xs : List Pc} {v : Nat} {p : Pc}, At xs v p → ∃ us bs, xs = us ++ p :: bs ∧ total us = v
  | q :: ys, v, p, h => by
    rcases h with ⟨rfl, rfl⟩ | ⟨v', rfl, h⟩
    · exact ⟨[], ys, rfl, rfl⟩
    · obtain ⟨us, bs, rfl, rfl⟩ := at_split h
      exact ⟨q :: us, bs, rfl, rfl⟩
theorem at_mem {xs : List Pc} {v : Nat} {p : Pc} (h : At xs v p) : p ∈ xs := by
  obtain ⟨us, bs, rfl, _⟩ := at_split h
  simp
theorem at_mid (us bs : List Pc) (p : Pc) : At (us ++ p :: bs) (total us) p := (at_app us _ _ p).2 (.inr ⟨0, by simp, .inl ⟨rfl, rfl⟩⟩)
theorem at_le {xs : List Pc} {v : Nat} {p : Pc} (h : At xs v p) : v + p.takes ≤ total xs := by
  obtain ⟨us, bs, rfl, rfl⟩ := at_split h
  rw [total_app]; simp only [total]; omega
theorem takes_pos (p : Pc) : 0 < p.takes := by unfold Pc.takes; omega
theorem at_uniq : ∀ {xs : List Pc} {v : Nat} {p q : Pc}, At xs v p → At xs v q → p = q
  | x :: ys, v, p, q, h, k => by
    have := takes_pos x
    rcases h with ⟨rfl, rfl⟩ | ⟨v', rfl, h⟩
    · rcases k with ⟨_, rfl⟩ | ⟨v2, e, _⟩
      · rfl
      · omega
    · rcases k with ⟨e, _⟩ | ⟨v2, e, k⟩
      · omega
      · obtain rfl : v' = v2 := by omega
        exact at_uniq h k
theorem total_mod : ∀ {xs : List Pc}, (∀ p ∈ xs, p.Ok) → total xs % 16 = 0
  | [], _ => rfl
  | p :: r, h => by
    have h1 := (h p (List.mem_cons_self ..)).m16
    have h2 := total_mod (xs := r) (fun q hq => h q (List.mem_cons_of_mem _ hq))
    simp only [total]; omega
theorem hd_fits {p : Pc} {a m : Nat} (h : p.Ok) (ht : p.takes ≤ 1048576) (ha : a ≤ 1048576) (_hm : m = m) : (p.hd a).fits := by
  refine ⟨h.own, ?_, by show a < _; omega⟩
  show p.size < 2097152
  cases hf : p.free
  · have := (h.bl hf).1; omega
  · have := h.fr hf; omega
theorem headAt_app (X D Y : List UInt8) (p : Head) (hp : p.fits) : headAt (X ++ (byte8 p.word ++ D) ++ Y) X.length = p := by
  unfold headAt
  have e : ((X ++ (byte8 p.word ++ D) ++ Y).drop X.length).take 8 = byte8 p.word := by
    rw [List.append_assoc, List.drop_left' rfl, List.append_assoc, List.take_left' (show (byte8 p.word).length = 8 from lastB_len 8 _)]
  rw [e]
  unfold byte8
  rw [wordOf_lastB, Nat.mod_eq_of_lt (word_lt hp), headOf_word hp]
theorem put_app (X B Y l : List UInt8) (h : B.length = l.length) : put (X ++ B ++ Y) X.length l = X ++ l ++ Y := by
  unfold put
  have e1 : (X ++ B ++ Y).take X.length = X := by rw [List.append_assoc, List.take_left' rfl]
  have e2 : (X ++ B ++ Y).drop (X.length + l.length) = Y := List.drop_left' (by simp [h])
  rw [e1, e2]
theorem putHd_app (X B Y : List UInt8) (p : Head) (h : B.length = 8) : putHd (X ++ B ++ Y) X.length p = X ++ byte8 p.word ++ Y := by
  unfold putHd
  exact put_app X B Y _ (by rw [h]; exact (lastB_len 8 _).symm)
theorem lastT_le : ∀ {xs : List Pc} {a m : Nat}, a ≤ m → total xs ≤ m → lastT a xs ≤ m
  | [], a, m, h, _ => h
  | p :: r, a, m, _, h => lastT_le (xs := r) (by simp only [total] at h; omega) (by simp only [total] at h; omega)
/-- The new free piece. -/
def mkFree (k : Nat) (raw : List UInt8) : Pc := ⟨true, k, raw.length, raw.drop 8⟩
theorem mkFree_takes {k : Nat} {raw : List UInt8} (h : 8 ≤ raw.length) : (mkFree k raw).takes = raw.length := by unfold mkFree Pc.takes; simp; omega
theorem mkFree_ok {k : Nat} {raw : List UInt8} (h : 16 ≤ raw.length) (h16 : raw.length % 16 = 0) (hk : k < 2097152) : (mkFree k raw).Ok := by
  have e := mkFree_takes (k := k) (raw := raw) (by omega)
  exact ⟨by rw [e]; exact h16, by rw [e]; exact h, hk, fun _ => e.symm, fun h => by cases h⟩
/-- putFree on a gap. -/
theorem putFree_mem (S : St) (xs ys : List Pc) (raw rest : List UInt8) (a' : Nat) (hm : S.mem = lay 0 xs ++ raw ++ lay a' ys ++ rest) (hr : rest.length < 16) (h16 : 16 ≤ raw.length) (hr16 : raw.length % 16 = 0)
    (hxs : ∀ p ∈ xs, p.Ok) (hys : ∀ p ∈ ys, p.Ok) (ha' : a' ≤ 1048576) (hl : S.mem.length ≤ 1048576) :
    (putFree S (total xs) raw.length (lastT 0 xs)).mem = lay 0 (xs ++ mkFree (push S.nd S.spare (cls raw.length) (total xs)).k raw :: ys) ++ rest := by
  have hlen : S.mem.length = total xs + raw.length + total ys + rest.length := by rw [hm]; simp [lay_len]; omega
  have tx := total_mod hxs
  have ty := total_mod hys
  unfold putFree
  simp only
  generalize (push S.nd S.spare (cls raw.length) (total xs)).k = k
  have e1 : putHd S.mem (total xs) ⟨true, k, raw.length, lastT 0 xs⟩ = lay 0 xs ++ (mkFree k raw).bytes (lastT 0 xs) ++ (lay a' ys ++ rest) := by
    have hs : S.mem = lay 0 xs ++ raw.take 8 ++ (raw.drop 8 ++ lay a' ys ++ rest) := by
      rw [hm]
      simp only [List.append_assoc]
      rw [← List.append_assoc (raw.take 8), List.take_append_drop]
    rw [hs]
    have := putHd_app (lay 0 xs) (raw.take 8) (raw.drop 8 ++ lay a' ys ++ rest) ⟨true, k, raw.length, lastT 0 xs⟩ (by simp; omega)
    rw [lay_len] at this
    rw [this]
    unfold Pc.bytes mkFree Pc.hd
    simp only [List.append_assoc]
  rw [e1]
  have hX : (lay 0 xs ++ (mkFree k raw).bytes (lastT 0 xs)).length = total xs + raw.length := by
    rw [List.length_append, lay_len, bytes_len, mkFree_takes (by omega)]
  cases ys with
  | nil =>
    have hge : ¬ (total xs + raw.length < S.mem.length / 16 * 16) := by simp [total] at hlen; omega
    rw [if_neg hge, lay_app]
    simp [lay]
  | cons q ys =>
    have hq := hys q (List.mem_cons_self ..)
    have hq16 := hq.ge
    simp only [total] at hlen
    have hlt : total xs + raw.length < S.mem.length / 16 * 16 := by omega
    rw [if_pos hlt]
    have e2 : lay 0 xs ++ (mkFree k raw).bytes (lastT 0 xs) ++ (lay a' (q :: ys) ++ rest) = (lay 0 xs ++ (mkFree k raw).bytes (lastT 0 xs)) ++ (byte8 (q.hd a').word ++ q.data) ++ (lay q.takes ys ++ rest) := by
      simp only [lay, Pc.bytes, List.append_assoc]
    rw [e2]
    have hfit := hd_fits (p := q) (a := a') (m := 0) hq (by omega) ha' rfl
    have h3 := headAt_app (lay 0 xs ++ (mkFree k raw).bytes (lastT 0 xs)) q.data (lay q.takes ys ++ rest) (q.hd a') hfit
    rw [hX] at h3
    rw [h3]
    have h4 := putHd_app (lay 0 xs ++ (mkFree k raw).bytes (lastT 0 xs)) (byte8 (q.hd a').word) (q.data ++ (lay q.takes ys ++ rest)) ⟨q.free, q.owner, q.size, raw.length⟩ (lastB_len 8 _)
    rw [hX] at h4
    have e3 : (lay 0 xs ++ (mkFree k raw).bytes (lastT 0 xs)) ++ (byte8 (q.hd a').word ++ q.data) ++ (lay q.takes ys ++ rest) = (lay 0 xs ++ (mkFree k raw).bytes (lastT 0 xs)) ++ byte8 (q.hd a').word ++ (q.data ++ (lay q.takes ys ++ rest)) := by simp only [List.append_assoc]
    rw [e3]
    refine h4.trans ?_
    rw [lay_app]
    simp only [lay, mkFree_takes (k := k) (raw := raw) (by omega), Pc.bytes, Pc.hd, List.append_assoc]
end Ar
end Go.Proofs.YtkndbldjablhoaaDoor
