/- What lies in memory for an arena. -/
import Derived.Test.YtkndbldjablhoaaDoorArm
namespace Go.Proofs.YtkndbldjablhoaaDoor
open Go.RowKit Go.Shelf
namespace Ar
structure Node where
  v : Nat
  l : Nat
  n : Nat
  deriving DecidableEq
structure St where
  mem : List UInt8
  used : Nat
  pl : List Nat
  us : List Nat
  low : Nat
  nd : List Node
  spare : Nat
end Ar
def encP (x : Nat) : Value := .int .i32 (x : Int)
def encU (x : Nat) : Value := .int .u64 (x : Int)
def encN (x : Ar.Node) : List Value := [encI x.v, encI x.l, encI x.n]
def encNs (l : List Ar.Node) : List Value := l.flatMap encN
structure Loc where
  M : Nat
  P : Nat
  U : Nat
  N : Nat
  cap : Nat
  rest : List Value
def arBox (L : Loc) (S : Ar.St) : List Value :=
  [.slice (some ⟨L.M, 0, none⟩) S.mem.length S.mem.length, encI S.used, .slice (some ⟨L.P, 0, none⟩) S.pl.length S.pl.length, .slice (some ⟨L.U, 0, none⟩) S.us.length S.us.length, encI S.low, .slice (some ⟨L.N, 0, none⟩) S.nd.length L.cap, encI S.spare]
structure ArE (A : Nat) (L : Loc) (S : Ar.St) (f : Nat → Prop) (w : World) : Prop where
  box : Blk w A (arBox L S) 73
  mem : Blk w L.M (S.mem.map encB) 5
  pl : Blk w L.P (S.pl.map encP) 21
  us : Blk w L.U (S.us.map encU) 87
  nd : Blk w L.N (encNs S.nd ++ L.rest) 99
  cap : L.rest.length + 3 * S.nd.length = 3 * L.cap
  cm : L.cap ≤ maxLen
  fA : f A
  fM : f L.M
  fP : f L.P
  fU : f L.U
  fN : f L.N
  fb : ∀ k, f k → k < w.heap.size
theorem encB_at {l : List UInt8} {i : Nat} (h : i < l.length) : (l.map encB)[i]? = some (.int .u8 (l[i].toNat : Int)) := by simp [h, encB]
theorem ArE.below {A : Nat} {L : Loc} {S : Ar.St} {f : Nat → Prop} {w w' : World} (h : ArE A L S f w) (hb : Below w.heap.size w w') : ArE A L S f w' :=
  ⟨h.box.kept (hb.block _ h.box.lt), h.mem.kept (hb.block _ h.mem.lt), h.pl.kept (hb.block _ h.pl.lt), h.us.kept (hb.block _ h.us.lt), h.nd.kept (hb.block _ h.nd.lt), h.cap, h.cm, h.fA, h.fM, h.fP, h.fU, h.fN, fun k e => Nat.lt_of_lt_of_le (h.fb k e) hb.size⟩
theorem ArE.wide {A : Nat} {L : Loc} {S : Ar.St} {f g : Nat → Prop} {w : World} (h : ArE A L S f w) (hf : ∀ k, f k → g k) (hg : ∀ k, g k → k < w.heap.size) : ArE A L S g w :=
  ⟨h.box, h.mem, h.pl, h.us, h.nd, h.cap, h.cm, hf _ h.fA, hf _ h.fM, hf _ h.fP, hf _ h.fU, hf _ h.fN, hg⟩
theorem ArE.cellM {A : Nat} {L : Loc} {S : Ar.St} {f : Nat → Prop} {w : World} (h : ArE A L S f w) {i : Nat} (hi : i < S.mem.length) : w.cell? ⟨L.M, i, none⟩ = some (.int .u8 (S.mem[i].toNat : Int)) := h.mem.cell (encB_at hi)
/-- The box, cell by cell. -/
theorem ArE.cells {A : Nat} {L : Loc} {S : Ar.St} {f : Nat → Prop} {w : World} (h : ArE A L S f w) :
    w.cell? ⟨A, 0, none⟩ = some (.slice (some ⟨L.M, 0, none⟩) S.mem.length S.mem.length) ∧ w.cell? ⟨A, 1, none⟩ = some (encI S.used) ∧ w.cell? ⟨A, 2, none⟩ = some (.slice (some ⟨L.P, 0, none⟩) S.pl.length S.pl.length) ∧ w.cell? ⟨A, 3, none⟩ = some (.slice (some ⟨L.U, 0, none⟩) S.us.length S.us.length) ∧ w.cell? ⟨A, 4, none⟩ = some (encI S.low) ∧ w.cell? ⟨A, 5, none⟩ = some (.slice (some ⟨L.N, 0, none⟩) S.nd.length L.cap) ∧ w.cell? ⟨A, 6, none⟩ = some (encI S.spare) :=
  ⟨h.box.cell rfl, h.box.cell rfl, h.box.cell rfl, h.box.cell rfl, h.box.cell rfl, h.box.cell rfl, h.box.cell rfl⟩
def encH (p : Ar.Head) : Value := .agg #[.bool p.free, encI p.owner, encI p.size, encI p.ahead]
end Go.Proofs.YtkndbldjablhoaaDoor
