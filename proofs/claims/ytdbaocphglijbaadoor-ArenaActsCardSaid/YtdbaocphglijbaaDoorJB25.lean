/- 4 texts put together: Tv, Aw7, Av7, Ocl. -/
import Derived.Test.YtdbaocphglijbaaDoorJB19
import Derived.Test.YtdbaocphglijbaaDoorJB24
/- Package intern: each call, by names. -/
set_option maxRecDepth 100000
namespace Go.Proofs.YtdbaocphglijbaaDoor
open Go.RowKit Go.Shelf
attribute [local go_sem] Oper.semAt_some
def TV (x : Nat → Prop) (t : TB) (B : Nat) (E : List Ent) (n0 : Nat) (w : World) : Prop := ∃ nn C F L, TS x t B nn E n0 C F L w
/-- What a call leaves alone. -/
structure TK (x : Nat → Prop) (t : TB) (n0 : Nat) (w w' : World) : Prop where
  below : Below n0 w w'
  own : ∀ k, x k → k ≠ t.T → k ≠ t.F → w'.heap[k]? = w.heap[k]?
theorem TK.trans {x : Nat → Prop} {t : TB} {n0 : Nat} {w w1 w2 : World} (h : TK x t n0 w w1) (k : TK x t n0 w1 w2) : TK x t n0 w w2 := ⟨h.below.trans k.below, fun j hj h1 h2 => (k.own j hj h1 h2).trans (h.own j hj h1 h2)⟩
theorem TK.refl (x : Nat → Prop) (t : TB) (n0 : Nat) (w : World) : TK x t n0 w w := ⟨Below.refl _ w, fun _ _ _ _ => rfl⟩
theorem LX.tk {x : Nat → Prop} {t : TB} {B : Nat} {L : List Bl} {n0 : Nat} {w w' : World} (h : LX x t.A B L n0 w w') : TK x t n0 w w' := ⟨h.below, fun k hk _ _ => h.own k hk⟩
theorem LT.tk {x : Nat → Prop} {t : TB} {F : List Nat} {cnt B : Nat} {L : List Bl} {n0 : Nat} {w w' : World} (h : LT x t F cnt B L n0 w w') : TK x t n0 w w' := ⟨h.below, h.own⟩
theorem TS.lx {x : Nat → Prop} {t : TB} {B nn : Nat} {E : List Ent} {n0 : Nat} {C : Nat → List Ent} {F : List Nat} {L : List Bl} {w w' : World} (h : TS x t B nn E n0 C F L w) (k : LX x t.A B L n0 w w') : TV x t B E n0 w' := ⟨nn, C, F, L, k.at_, h.tb.lx k, h.ti, h.mem, h.per⟩
theorem TV.after {x : Nat → Prop} {t : TB} {B : Nat} {E : List Ent} {n0 : Nat} {w w' : World} (h : TV x t B E n0 w) (hb : Below w.heap.size w w') : TV x t B E n0 w' ∧ TK x t n0 w w' := by
  obtain ⟨nn, C, F, L, h⟩ := h
  exact ⟨h.lx (h.hx.lx hb), (h.hx.lx hb).tk⟩
theorem TS.count {x : Nat → Prop} {t : TB} {B nn : Nat} {E : List Ent} {n0 : Nat} {C : Nat → List Ent} {F : List Nat} {L : List Bl} {w : World} (h : TS x t B nn E n0 C F L w) : E.length ≤ 65536 := by
  have h1 := h.per.length_eq
  unfold lens idl at h1
  rw [List.length_map, List.length_map] at h1
  rw [← h1]
  exact least_le (L1 := L) (L2 := []) (by rw [List.append_nil]; exact h.hx)
def AddRet (x : Nat → Prop) (t : TB) (B : Nat) (E : List Ent) (n0 : Nat) (w : World) (w' : World) : Prop := TV x t B E n0 w' ∧ TK x t n0 w w'
theorem tv_use (x : Nat → Prop) (t : TB) (B : Nat) (E1 E2 : List Ent) (y : Ent) (n0 : Nat) (n : List UInt8) (w : World) (h : TV x t B (E1 ++ y :: E2) n0 w) (hv : Nm.valid n = true) (hz : Nm.fold n = y.name) (hl : n.length ≤ 100000) (hu : y.uses + 1 < 2147483648) :
    Calls Tryd.prog 36 #[.pointer (some ⟨t.T, 0, none⟩), .string ⟨n.toArray⟩] w fun e w' => e = .returned (.tuple #[.int .i64 (y.id : Int), .int .i64 0]) ∧ AddRet x t B (E1 ++ ⟨y.id, y.uses + 1, y.name⟩ :: E2) n0 w w' := by
  obtain ⟨nn, C, F, L, h⟩ := h
  obtain ⟨c, hc, hy⟩ := (h.mem y).1 (by simp)
  refine (add_found x t B nn _ C F L n0 c y n w h.hx h.tb h.ti hc hy hv hz hl).mono fun e w' ⟨he, hk⟩ => ?_
  obtain ⟨C', L', h', hk'⟩ := h.use hc hy hu hk
  exact ⟨he, ⟨nn, C', F, L', h'⟩, hk'.tk⟩
theorem tv_new (x : Nat → Prop) (t : TB) (B : Nat) (E : List Ent) (n0 : Nat) (n l : List UInt8) (w : World) (h : TV x t B E n0 w) (hv : Nm.valid n = true) (hz : Nm.fold n = l) (hl : n.length ≤ 100000) (hl2 : l.length ≤ 300) (hn : ∀ e ∈ E, e.name ≠ l) (hr : costE E + Ar.cost (l.length + 8) ≤ B) :
    Calls Tryd.prog 36 #[.pointer (some ⟨t.T, 0, none⟩), .string ⟨n.toArray⟩] w fun e w' => ∃ i : Nat, e = .returned (.tuple #[.int .i64 (i : Int), .int .i64 0]) ∧ LeastE E i ∧ AddRet x t B (E ++ [⟨i, 1, l⟩]) n0 w w' := by
  obtain ⟨nn, C, F, L, h⟩ := h
  have hE := h.count
  refine (add_new x t B nn _ C F L n0 n l w h.hx h.tb h.ti hv hz hl hl2 (h.no hn)).mono fun e w' hk => ?_
  rcases hk with ⟨hk, _⟩ | ⟨_, hk⟩
  · rw [h.sum] at hk; omega
  · obtain ⟨i, C', F', L', he, hi, h', hk'⟩ := h.push hl2 hn (by omega) hk
    exact ⟨i, he, hi, ⟨nn, C', F', L', h'⟩, hk'.tk⟩
theorem tv_full (x : Nat → Prop) (t : TB) (B : Nat) (E : List Ent) (n0 : Nat) (n l : List UInt8) (w : World) (h : TV x t B E n0 w) (hv : Nm.valid n = true) (hz : Nm.fold n = l) (hl : n.length ≤ 100000) (hl2 : l.length ≤ 300) (hn : ∀ e ∈ E, e.name ≠ l) (hr : B < costE E + Ar.cost (l.length + 8)) :
    Calls Tryd.prog 36 #[.pointer (some ⟨t.T, 0, none⟩), .string ⟨n.toArray⟩] w fun e w' => e = .returned (.tuple #[.int .i64 0, .int .i64 4]) ∧ AddRet x t B E n0 w w' := by
  obtain ⟨nn, C, F, L, h⟩ := h
  refine (add_new x t B nn _ C F L n0 n l w h.hx h.tb h.ti hv hz hl hl2 (h.no hn)).mono fun e w' hk => ?_
  rcases hk with ⟨_, he, hk⟩ | ⟨hk, _⟩
  · exact ⟨he, ⟨nn, C, F, L, hk.at_, hk.tb, h.ti, h.mem, h.per⟩, hk.tk⟩
  · rw [h.sum] at hk; omega
theorem tv_less (x : Nat → Prop) (t : TB) (B : Nat) (E1 E2 : List Ent) (y : Ent) (u n0 : Nat) (z : Int) (w : World) (h : TV x t B (E1 ++ y :: E2) n0 w) (hu : y.uses = u + 1) (hu1 : 1 ≤ u) (hz : z = (y.id : Int)) :
    Calls Tryd.prog 38 #[.pointer (some ⟨t.T, 0, none⟩), .int .i64 z] w fun e w' => e = .returned (.int .i64 0) ∧ AddRet x t B (E1 ++ ⟨y.id, u, y.name⟩ :: E2) n0 w w' := by
  obtain ⟨nn, C, F, L, h⟩ := h
  obtain ⟨c, hc, hy⟩ := (h.mem y).1 (by simp)
  have hs := (h.ti.small c hc y hy).1
  refine (drop_less x t B nn _ C F L n0 c y u z w h.hx h.tb h.ti hc hy hu hu1 hz).mono fun e w' ⟨he, hk⟩ => ?_
  obtain ⟨C', L', h', hk'⟩ := h.use hc hy (by omega) hk
  exact ⟨he, ⟨nn, C', F, L', h'⟩, hk'.tk⟩
theorem tv_last (x : Nat → Prop) (t : TB) (B : Nat) (E1 E2 : List Ent) (y : Ent) (n0 : Nat) (z : Int) (w : World) (h : TV x t B (E1 ++ y :: E2) n0 w) (hu : y.uses = 1) (hz : z = (y.id : Int)) :
    Calls Tryd.prog 38 #[.pointer (some ⟨t.T, 0, none⟩), .int .i64 z] w fun e w' => e = .returned (.int .i64 0) ∧ AddRet x t B (E1 ++ E2) n0 w w' := by
  obtain ⟨nn, C, F, L, h⟩ := h
  obtain ⟨c, hc, hy⟩ := (h.mem y).1 (by simp)
  have hlen : (E1 ++ y :: E2).length = (E1 ++ E2).length + 1 := by simp; omega
  refine (drop_last x t B nn (E1 ++ E2).length C F L n0 c y z w h.hx (by rw [← hlen]; exact h.tb) (by rw [← hlen]; exact h.ti) hc hy hu hz).mono fun e w' ⟨he, hk⟩ => ?_
  obtain ⟨C', F', L', h', hk'⟩ := h.cut hc hy hk
  exact ⟨he, ⟨nn, C', F', L', h'⟩, hk'.tk⟩
theorem tv_none (x : Nat → Prop) (t : TB) (B : Nat) (E : List Ent) (n0 : Nat) (z : Int) (w : World) (h : TV x t B E n0 w) (hz : ∀ e ∈ E, (e.id : Int) ≠ z) :
    Calls Tryd.prog 38 #[.pointer (some ⟨t.T, 0, none⟩), .int .i64 z] w fun e w' => e = .returned (.int .i64 5) ∧ AddRet x t B E n0 w w' := by
  obtain ⟨nn, C, F, L, h⟩ := h
  exact (drop_none x t B _ F L n0 z w h.hx h.tb (h.noid hz)).mono fun e w' ⟨he, hk, _⟩ => ⟨he, h.lx hk, hk.tk⟩
theorem tv_name (x : Nat → Prop) (t : TB) (B : Nat) (E : List Ent) (y : Ent) (n0 : Nat) (z : Int) (w : World) (h : TV x t B E n0 w) (hy : y ∈ E) (hz : z = (y.id : Int)) :
    Calls Tryd.prog 71 #[.pointer (some ⟨t.T, 0, none⟩), .int .i64 z] w fun e w' => e = .returned (.tuple #[.string ⟨y.name.toArray⟩, .bool true]) ∧ AddRet x t B E n0 w w' := by
  obtain ⟨nn, C, F, L, h⟩ := h
  obtain ⟨c, hc, hy⟩ := (h.mem y).1 hy
  exact (name_yes x t B nn _ C F L n0 c y z w h.hx h.tb h.ti hc hy hz).mono fun e w' ⟨he, hk, _⟩ => ⟨he, h.lx hk, hk.tk⟩
theorem tv_noname (x : Nat → Prop) (t : TB) (B : Nat) (E : List Ent) (n0 : Nat) (z : Int) (w : World) (h : TV x t B E n0 w) (hz : ∀ e ∈ E, (e.id : Int) ≠ z) :
    Calls Tryd.prog 71 #[.pointer (some ⟨t.T, 0, none⟩), .int .i64 z] w fun e w' => e = .returned (.tuple #[.string ⟨#[]⟩, .bool false]) ∧ AddRet x t B E n0 w w' := by
  obtain ⟨nn, C, F, L, h⟩ := h
  exact (name_no x t B _ F L n0 z w h.hx h.tb (h.noid hz)).mono fun e w' ⟨he, hk, _⟩ => ⟨he, h.lx hk, hk.tk⟩
theorem tv_uses (x : Nat → Prop) (t : TB) (B : Nat) (E : List Ent) (y : Ent) (n0 : Nat) (z : Int) (w : World) (h : TV x t B E n0 w) (hy : y ∈ E) (hz : z = (y.id : Int)) :
    Calls Tryd.prog 47 #[.pointer (some ⟨t.T, 0, none⟩), .int .i64 z] w fun e w' => e = .returned (.int .i64 (y.uses : Int)) ∧ AddRet x t B E n0 w w' := by
  obtain ⟨nn, C, F, L, h⟩ := h
  obtain ⟨c, hc, hy⟩ := (h.mem y).1 hy
  exact (uses_yes x t B nn _ C F L n0 c y z w h.hx h.tb h.ti hc hy hz).mono fun e w' ⟨he, hk, _⟩ => ⟨he, h.lx hk, hk.tk⟩
theorem tv_nouses (x : Nat → Prop) (t : TB) (B : Nat) (E : List Ent) (n0 : Nat) (z : Int) (w : World) (h : TV x t B E n0 w) (hz : ∀ e ∈ E, (e.id : Int) ≠ z) :
    Calls Tryd.prog 47 #[.pointer (some ⟨t.T, 0, none⟩), .int .i64 z] w fun e w' => e = .returned (.int .i64 0) ∧ AddRet x t B E n0 w w' := by
  obtain ⟨nn, C, F, L, h⟩ := h
  exact (uses_no x t B _ F L n0 z w h.hx h.tb (h.noid hz)).mono fun e w' ⟨he, hk, _⟩ => ⟨he, h.lx hk, hk.tk⟩
theorem tv_find (x : Nat → Prop) (t : TB) (B : Nat) (E : List Ent) (y : Ent) (n0 : Nat) (n : List UInt8) (w : World) (h : TV x t B E n0 w) (hy : y ∈ E) (hz : Nm.fold n = y.name) (hl : n.length ≤ 100000) :
    Calls Tryd.prog 41 #[.pointer (some ⟨t.T, 0, none⟩), .string ⟨n.toArray⟩] w fun e w' => e = .returned (.tuple #[.int .i64 (y.id : Int), .bool true]) ∧ AddRet x t B E n0 w w' := by
  obtain ⟨nn, C, F, L, h⟩ := h
  obtain ⟨c, hc, hy⟩ := (h.mem y).1 hy
  exact (tfind_yes x t B nn _ C F L n0 c y n w h.hx h.tb h.ti hc hy hz hl).mono fun e w' ⟨he, hk, _⟩ => ⟨he, h.lx hk, hk.tk⟩
theorem tv_nofind (x : Nat → Prop) (t : TB) (B : Nat) (E : List Ent) (n0 : Nat) (n : List UInt8) (w : World) (h : TV x t B E n0 w) (hl : n.length ≤ 100000) (hfl : (Nm.fold n).length ≤ 1000000) (hn : ∀ e ∈ E, e.name ≠ Nm.fold n) :
    Calls Tryd.prog 41 #[.pointer (some ⟨t.T, 0, none⟩), .string ⟨n.toArray⟩] w fun e w' => e = .returned (.tuple #[.int .i64 0, .bool false]) ∧ AddRet x t B E n0 w w' := by
  obtain ⟨nn, C, F, L, h⟩ := h
  exact (tfind_no x t B nn _ C F L n0 n w h.hx h.tb h.ti hl hfl (h.no hn)).mono fun e w' ⟨he, hk, _⟩ => ⟨he, h.lx hk, hk.tk⟩
theorem tv_count (x : Nat → Prop) (t : TB) (B : Nat) (E : List Ent) (n0 : Nat) (w : World) (h : TV x t B E n0 w) :
    Calls Tryd.prog 48 #[.pointer (some ⟨t.T, 0, none⟩)] w fun e w' => e = .returned (.int .i64 (E.length : Int)) ∧ w = w' := by
  obtain ⟨nn, C, F, L, h⟩ := h
  exact count_any x t F _ w h.tb
theorem tv_cost_yes (x : Nat → Prop) (t : TB) (B : Nat) (E : List Ent) (y : Ent) (n0 : Nat) (n : List UInt8) (w : World) (h : TV x t B E n0 w) (hy : y ∈ E) (hv : Nm.valid n = true) (hz : Nm.fold n = y.name) (hl : n.length ≤ 100000) :
    Calls Tryd.prog 43 #[.pointer (some ⟨t.T, 0, none⟩), .string ⟨n.toArray⟩] w fun e w' => e = .returned (.int .i64 0) ∧ AddRet x t B E n0 w w' := by
  obtain ⟨nn, C, F, L, h⟩ := h
  obtain ⟨c, hc, hy⟩ := (h.mem y).1 hy
  exact (icost_yes x t B nn _ C F L n0 c y n w h.hx h.tb h.ti hc hy hv hz hl).mono fun e w' ⟨he, hk, _⟩ => ⟨he, h.lx hk, hk.tk⟩
theorem tv_cost_no (x : Nat → Prop) (t : TB) (B : Nat) (E : List Ent) (n0 : Nat) (n : List UInt8) (w : World) (h : TV x t B E n0 w) (hv : Nm.valid n = true) (hl : n.length ≤ 100000) (hfl : (Nm.fold n).length ≤ 1000000) (hn : ∀ e ∈ E, e.name ≠ Nm.fold n) :
    Calls Tryd.prog 43 #[.pointer (some ⟨t.T, 0, none⟩), .string ⟨n.toArray⟩] w fun e w' => e = .returned (.int .i64 (Ar.costI ((n.length + 8 : Nat) : Int) : Int)) ∧ AddRet x t B E n0 w w' := by
  obtain ⟨nn, C, F, L, h⟩ := h
  exact (icost_no x t B nn _ C F L n0 n w h.hx h.tb h.ti hv hl hfl (h.no hn)).mono fun e w' ⟨he, hk, _⟩ => ⟨he, h.lx hk, hk.tk⟩
end Go.Proofs.YtdbaocphglijbaaDoor

/- awake of chapter 7's laws: its calls. -/
set_option maxRecDepth 100000
namespace Go.Proofs.YtdbaocphglijbaaDoor
open Go.RowKit Go.Shelf
attribute [local go_sem] Oper.semAt_some
def xt (t : TB) (k : Nat) : Prop := k = t.F ∨ k = t.T
theorem inew_tv (A B : Nat) (n0 : Nat) (w : World) (h : HX (fun _ => False) A B [] n0 w) :
    Calls Tryd.prog 35 #[.pointer (some ⟨A, 0, none⟩)] w fun e w' => ∃ T F, e = .returned (.pointer (some ⟨T, 0, none⟩)) ∧ TV (xt ⟨A, T, F⟩) ⟨A, T, F⟩ B [] n0 w' ∧ Below w.heap.size w w' := by
  have hB := h.sum_le.2
  refine (inew_any _ A B [] n0 w h).mono fun e w' ⟨T, F, he, hx, ht, hb⟩ => ⟨T, F, he, ⟨_, _, _, [], ⟨hx.less (fun k hk => by rcases hk with rfl | rfl <;> simp), ⟨ht.box, ht.row, .inr rfl, .inl rfl⟩, ti_empty B (by omega) [], fun e => ⟨fun h => (by cases h), fun ⟨c, hc, h⟩ => (by cases h)⟩, List.Perm.refl _⟩⟩, hb⟩
theorem tv_used (x : Nat → Prop) (t : TB) (B : Nat) (E : List Ent) (n0 : Nat) (w : World) (h : TV x t B E n0 w) :
    Calls Tryd.prog 31 #[.pointer (some ⟨t.A, 0, none⟩)] w fun e w' => e = .returned (.int .i64 (costE E : Int)) ∧ w = w' := by
  obtain ⟨nn, C, F, L, h⟩ := h
  rw [← h.sum]
  exact used_x x t.A B L n0 w h.hx
set_option maxHeartbeats 4000000 in
theorem count_nil (w : World) : Calls Tryd.prog 48 #[.pointer none] w fun e w' => e = .returned (.int .i64 0) ∧ w = w' := by
  go_enter Tryd.func48, Tryd.ntmps48
  go_wp2
  go_ret
  exact ⟨rfl, rfl⟩
def nmA : List UInt8 := [1, 97, 0]
theorem aw7_add1 (t : TB) (n0 : Nat) (w : World) (h : TV (xt t) t 1024 [] n0 w) :
    Calls Tryd.prog 36 #[.pointer (some ⟨t.T, 0, none⟩), .string ⟨#[1, 65, 0]⟩] w fun e w' => e = .returned (.tuple #[.int .i64 1, .int .i64 0]) ∧ AddRet (xt t) t 1024 [⟨1, 1, nmA⟩] n0 w w' := by
  refine (tv_new (xt t) t 1024 [] n0 [1, 65, 0] nmA w h (by decide) (by decide) (by decide) (by decide) (fun e he => by cases he) (by decide)).mono fun e w' ⟨i, he, hi, hk⟩ => ?_
  have h1 : i = 1 := by
    have h2 := hi.1
    rcases Nat.lt_or_ge 1 i with h3 | h3
    · obtain ⟨e, he, _⟩ := hi.2.2 1 (by omega) h3
      cases he
    · omega
  subst h1
  exact ⟨he, hk⟩
theorem aw7_add2 (t : TB) (n0 : Nat) (w : World) (h : TV (xt t) t 1024 [⟨1, 1, nmA⟩] n0 w) :
    Calls Tryd.prog 36 #[.pointer (some ⟨t.T, 0, none⟩), .string ⟨#[1, 97, 0]⟩] w fun e w' => e = .returned (.tuple #[.int .i64 1, .int .i64 0]) ∧ AddRet (xt t) t 1024 [⟨1, 2, nmA⟩] n0 w w' :=
  tv_use (xt t) t 1024 [] [] ⟨1, 1, nmA⟩ n0 [1, 97, 0] w h (by decide) (by decide) (by decide) (by decide)
theorem aw7_bad (v : Value) (w : World) : Calls Tryd.prog 36 #[v, .string ⟨#[97]⟩] w fun e w' => e = .returned (.tuple #[.int .i64 0, .int .i64 2]) ∧ w = w' :=
  add_bad v [97] w (by decide) (by decide)
theorem aw7_name (t : TB) (n0 : Nat) (w : World) (h : TV (xt t) t 1024 [⟨1, 2, nmA⟩] n0 w) :
    Calls Tryd.prog 71 #[.pointer (some ⟨t.T, 0, none⟩), .int .i64 1] w fun e w' => e = .returned (.tuple #[.string ⟨#[1, 97, 0]⟩, .bool true]) ∧ AddRet (xt t) t 1024 [⟨1, 2, nmA⟩] n0 w w' :=
  tv_name (xt t) t 1024 _ ⟨1, 2, nmA⟩ n0 1 w h (by simp) rfl
theorem aw7_cost (t : TB) (n0 : Nat) (w : World) (h : TV (xt t) t 1024 [⟨1, 2, nmA⟩] n0 w) :
    Calls Tryd.prog 43 #[.pointer (some ⟨t.T, 0, none⟩), .string ⟨#[1, 98, 0]⟩] w fun e w' => e = .returned (.int .i64 32) ∧ AddRet (xt t) t 1024 [⟨1, 2, nmA⟩] n0 w w' := by
  have h1 := tv_cost_no (xt t) t 1024 _ n0 [1, 98, 0] w h (by decide) (by decide) (by decide) (fun e he => by rw [List.mem_singleton] at he; subst he; decide)
  rw [show (Ar.costI (([1, 98, 0] : List UInt8).length + 8 : Nat) : Int) = 32 by decide] at h1
  exact h1
theorem aw7_uses (t : TB) (n0 : Nat) (w : World) (h : TV (xt t) t 1024 [⟨1, 2, nmA⟩] n0 w) :
    Calls Tryd.prog 47 #[.pointer (some ⟨t.T, 0, none⟩), .int .i64 1] w fun e w' => e = .returned (.int .i64 2) ∧ AddRet (xt t) t 1024 [⟨1, 2, nmA⟩] n0 w w' :=
  tv_uses (xt t) t 1024 _ ⟨1, 2, nmA⟩ n0 1 w h (by simp) rfl
theorem aw7_drop1 (t : TB) (n0 : Nat) (w : World) (h : TV (xt t) t 1024 [⟨1, 2, nmA⟩] n0 w) :
    Calls Tryd.prog 38 #[.pointer (some ⟨t.T, 0, none⟩), .int .i64 1] w fun e w' => e = .returned (.int .i64 0) ∧ AddRet (xt t) t 1024 [⟨1, 1, nmA⟩] n0 w w' :=
  tv_less (xt t) t 1024 [] [] ⟨1, 2, nmA⟩ 1 n0 1 w h rfl (by decide) rfl
theorem aw7_drop2 (t : TB) (n0 : Nat) (w : World) (h : TV (xt t) t 1024 [⟨1, 1, nmA⟩] n0 w) :
    Calls Tryd.prog 38 #[.pointer (some ⟨t.T, 0, none⟩), .int .i64 1] w fun e w' => e = .returned (.int .i64 0) ∧ AddRet (xt t) t 1024 [] n0 w w' :=
  tv_last (xt t) t 1024 [] [] ⟨1, 1, nmA⟩ n0 1 w h rfl rfl
theorem aw7_drop3 (t : TB) (n0 : Nat) (w : World) (h : TV (xt t) t 1024 [] n0 w) :
    Calls Tryd.prog 38 #[.pointer (some ⟨t.T, 0, none⟩), .int .i64 1] w fun e w' => e = .returned (.int .i64 5) ∧ AddRet (xt t) t 1024 [] n0 w w' :=
  tv_none (xt t) t 1024 [] n0 1 w h (fun e he => by cases he)
end Go.Proofs.YtdbaocphglijbaaDoor

/- awake of chapter 7's laws is true. -/
set_option maxRecDepth 100000
namespace Go.Proofs.YtdbaocphglijbaaDoor
open Go.RowKit Go.Shelf
attribute [local go_sem] Oper.semAt_some
set_option maxHeartbeats 16000000 in
theorem awake7_any (w : World) (hT : TabOk w) : Calls Tryd.prog 34 #[] w fun e w' => e = .returned (.bool true) ∧ Below w.heap.size w w' := by
  have HNW := Lib.hid (new_x 1024 w (by decide) (by decide) hT)
  have HNIL := Lib.hid (fun W => add_nil [0] W (by decide) (by decide))
  go_enter Tryd.func34, Tryd.ntmps34
  go_wp2_with fail
  refine HNW.out.mono ?_
  rintro e w1 ⟨A, rfl, hx, b1⟩
  have HX1 := Lib.hid hx
  have HB1 := Lib.hid b1
  clear hx b1 HNW
  go_wp2_with fail
  refine (inew_tv A 1024 _ w1 HX1.out).mono ?_
  rintro e w2 ⟨T, F, rfl, hv, b2⟩
  have HV := Lib.hid hv
  have HB := Lib.hid (HB1.out.trans (b2.mono HB1.out.size))
  clear hv b2 HX1 HB1
  go_wp2_with fail
  refine (aw7_add1 ⟨A, T, F⟩ _ w2 HV.out).mono ?_
  rintro e w3 ⟨rfl, hv, hk⟩
  have HV := Lib.hid hv
  have HB := Lib.hid (HB.out.trans hk.below)
  clear hv hk
  go_wp2_with fail
  refine (aw7_add2 ⟨A, T, F⟩ _ w3 HV.out).mono ?_
  rintro e w4 ⟨rfl, hv, hk⟩
  have HV := Lib.hid hv
  have HB := Lib.hid (HB.out.trans hk.below)
  clear hv hk
  go_wp2_with fail
  refine (aw7_bad _ w4).mono ?_
  rintro e w' ⟨rfl, rfl⟩
  go_wp2_with fail
  refine (aw7_name ⟨A, T, F⟩ _ w4 HV.out).mono ?_
  rintro e w5 ⟨rfl, hv, hk⟩
  have HV := Lib.hid hv
  have HB := Lib.hid (HB.out.trans hk.below)
  clear hv hk
  go_wp2_with fail
  refine (aw7_cost ⟨A, T, F⟩ _ w5 HV.out).mono ?_
  rintro e w6 ⟨rfl, hv, hk⟩
  have HV := Lib.hid hv
  have HB := Lib.hid (HB.out.trans hk.below)
  clear hv hk
  go_wp2_with fail
  refine (aw7_uses ⟨A, T, F⟩ _ w6 HV.out).mono ?_
  rintro e w7 ⟨rfl, hv, hk⟩
  have HV := Lib.hid hv
  have HB := Lib.hid (HB.out.trans hk.below)
  clear hv hk
  go_wp2_with fail
  refine (aw7_drop1 ⟨A, T, F⟩ _ w7 HV.out).mono ?_
  rintro e w8 ⟨rfl, hv, hk⟩
  have HV := Lib.hid hv
  have HB := Lib.hid (HB.out.trans hk.below)
  clear hv hk
  go_wp2_with fail
  refine (aw7_drop2 ⟨A, T, F⟩ _ w8 HV.out).mono ?_
  rintro e w9 ⟨rfl, hv, hk⟩
  have HV := Lib.hid hv
  have HB := Lib.hid (HB.out.trans hk.below)
  clear hv hk
  go_wp2_with fail
  refine (aw7_drop3 ⟨A, T, F⟩ _ w9 HV.out).mono ?_
  rintro e w10 ⟨rfl, hv, hk⟩
  have HV := Lib.hid hv
  have HB := Lib.hid (HB.out.trans hk.below)
  clear hv hk
  go_wp2_with fail
  refine (HNIL.out w10).mono ?_
  rintro e w' ⟨rfl, rfl⟩
  have HU := Lib.hid (tv_used _ ⟨A, T, F⟩ 1024 [] _ w10 HV.out)
  go_wp2_with (first
    | (go_at_call 31; refine HU.out.mono ?_; rintro e w' ⟨rfl, rfl⟩)
    | (go_at_call 48; refine (count_nil _).mono ?_; rintro e w' ⟨rfl, rfl⟩))
  go_ret
  exact ⟨rfl, HB.out⟩
end Go.Proofs.YtdbaocphglijbaaDoor

/- InternOnce: its calls. -/
set_option maxRecDepth 100000
namespace Go.Proofs.YtdbaocphglijbaaDoor
open Go.RowKit Go.Shelf
attribute [local go_sem] Oper.semAt_some
def onceE (l : List UInt8) (k : Nat) : List Ent := if k = 0 then [] else [⟨1, k, Nm.fold l⟩]
theorem onceE_pos (l : List UInt8) {k : Nat} (h : 0 < k) : onceE l k = [⟨1, k, Nm.fold l⟩] := by unfold onceE; rw [if_neg (by omega)]
structure OnceSt (t : TB) (l : List UInt8) (k n0 : Nat) (w wr : World) : Prop where
  tv : TV (xt t) t 4096 (onceE l k) n0 wr
  bel : Below w.heap.size w wr
theorem OnceSt.go {t : TB} {l : List UInt8} {k j n0 : Nat} {w w1 w2 : World} (h : OnceSt t l k n0 w w1) (hn : w.heap.size ≤ n0) (k' : AddRet (xt t) t 4096 (onceE l j) n0 w1 w2) : OnceSt t l j n0 w w2 := ⟨k'.1, h.bel.trans (k'.2.below.mono hn)⟩
theorem once_add (t : TB) (l s : List UInt8) (k n0 : Nat) (w W : World) (hn : w.heap.size ≤ n0) (hl : l.length ≤ 255) (hfl : (Nm.fold l).length = l.length) (hk : k < 30) (hs : s.length ≤ 255) (hv : Nm.valid s = true) (hz : Nm.fold s = Nm.fold l) (hc : Ar.cost (l.length + 8) ≤ 4096) (h : OnceSt t l k n0 w W) :
    Calls Tryd.prog 36 #[.pointer (some ⟨t.T, 0, none⟩), .string ⟨s.toArray⟩] W fun e w' => e = .returned (.tuple #[.int .i64 1, .int .i64 0]) ∧ OnceSt t l (k + 1) n0 w w' := by
  by_cases h0 : k = 0
  · subst h0
    have htv := h.tv
    unfold onceE at htv
    rw [if_pos rfl] at htv
    refine (tv_new (xt t) t 4096 [] n0 s (Nm.fold l) W htv hv hz (by omega) (by omega) (fun e he => by cases he) (by rw [hfl]; show 0 + _ ≤ _; omega)).mono fun e w' ⟨i, he, hi, hk⟩ => ?_
    have h1 : i = 1 := by
      have h2 := hi.1
      rcases Nat.lt_or_ge 1 i with h3 | h3
      · obtain ⟨e, he, _⟩ := hi.2.2 1 (by omega) h3
        cases he
      · omega
    subst h1
    exact ⟨he, h.go hn (by rw [onceE_pos l (by omega)]; exact hk)⟩
  · have htv := h.tv
    rw [onceE_pos l (by omega)] at htv
    exact (tv_use (xt t) t 4096 [] [] ⟨1, k, Nm.fold l⟩ n0 s W htv hv hz (by omega) (by simp only; omega)).mono fun e w' ⟨he, hk⟩ => ⟨he, h.go hn (by rw [onceE_pos l (by omega)]; exact hk)⟩
theorem once_uses (t : TB) (l : List UInt8) (k n0 : Nat) (w W : World) (hn : w.heap.size ≤ n0) (hk : 0 < k) (h : OnceSt t l k n0 w W) :
    Calls Tryd.prog 47 #[.pointer (some ⟨t.T, 0, none⟩), .int .i64 1] W fun e w' => e = .returned (.int .i64 (k : Int)) ∧ OnceSt t l k n0 w w' := by
  have htv := h.tv
  rw [onceE_pos l hk] at htv
  exact (tv_uses (xt t) t 4096 _ ⟨1, k, Nm.fold l⟩ n0 1 W htv (by simp) rfl).mono fun e w' ⟨he, hk'⟩ => ⟨he, h.go hn (by rw [onceE_pos l hk]; exact hk')⟩
theorem once_count (t : TB) (l : List UInt8) (k n0 : Nat) (w W : World) (hk : 0 < k) (h : OnceSt t l k n0 w W) :
    Calls Tryd.prog 48 #[.pointer (some ⟨t.T, 0, none⟩)] W fun e w' => e = .returned (.int .i64 1) ∧ W = w' := by
  have htv := h.tv
  rw [onceE_pos l hk] at htv
  exact tv_count (xt t) t 4096 _ n0 W htv
theorem once_count0 (t : TB) (l : List UInt8) (n0 : Nat) (w W : World) (h : OnceSt t l 0 n0 w W) :
    Calls Tryd.prog 48 #[.pointer (some ⟨t.T, 0, none⟩)] W fun e w' => e = .returned (.int .i64 0) ∧ W = w' :=
  tv_count (xt t) t 4096 [] n0 W h.tv
theorem once_used (t : TB) (l : List UInt8) (k n0 : Nat) (w W : World) (hfl : (Nm.fold l).length = l.length) (hk : 0 < k) (h : OnceSt t l k n0 w W) :
    Calls Tryd.prog 31 #[.pointer (some ⟨t.A, 0, none⟩)] W fun e w' => e = .returned (.int .i64 ((Ar.cost (l.length + 8) : Nat) : Int)) ∧ W = w' := by
  have htv := h.tv
  rw [onceE_pos l hk] at htv
  have h1 := tv_used (xt t) t 4096 _ n0 W htv
  rw [costE_cons] at h1
  rw [show costE [] = 0 from rfl] at h1
  simp only [hfl, Nat.add_zero] at h1
  exact h1
theorem once_used0 (t : TB) (l : List UInt8) (n0 : Nat) (w W : World) (h : OnceSt t l 0 n0 w W) :
    Calls Tryd.prog 31 #[.pointer (some ⟨t.A, 0, none⟩)] W fun e w' => e = .returned (.int .i64 0) ∧ W = w' :=
  tv_used (xt t) t 4096 [] n0 W h.tv
theorem once_drop (t : TB) (l : List UInt8) (k n0 : Nat) (w W : World) (hn : w.heap.size ≤ n0) (h : OnceSt t l (k + 1) n0 w W) :
    Calls Tryd.prog 38 #[.pointer (some ⟨t.T, 0, none⟩), .int .i64 1] W fun e w' => e = .returned (.int .i64 0) ∧ OnceSt t l k n0 w w' := by
  have htv := h.tv
  rw [onceE_pos l (by omega)] at htv
  by_cases h0 : k = 0
  · subst h0
    exact (tv_last (xt t) t 4096 [] [] ⟨1, 1, Nm.fold l⟩ n0 1 W htv rfl rfl).mono fun e w' ⟨he, hk⟩ => ⟨he, h.go hn hk⟩
  · exact (tv_less (xt t) t 4096 [] [] ⟨1, k + 1, Nm.fold l⟩ k n0 1 W htv rfl (by omega) rfl).mono fun e w' ⟨he, hk⟩ => ⟨he, h.go hn (by rw [onceE_pos l (by omega)]; exact hk)⟩
theorem once_drop0 (t : TB) (l : List UInt8) (n0 : Nat) (w W : World) (hn : w.heap.size ≤ n0) (h : OnceSt t l 0 n0 w W) :
    Calls Tryd.prog 38 #[.pointer (some ⟨t.T, 0, none⟩), .int .i64 1] W fun e w' => e = .returned (.int .i64 5) ∧ OnceSt t l 0 n0 w w' :=
  (tv_none (xt t) t 4096 [] n0 1 W h.tv (fun e he => by cases he)).mono fun e w' ⟨he, hk⟩ => ⟨he, h.go hn hk⟩
theorem once_find0 (t : TB) (l : List UInt8) (n0 : Nat) (w W : World) (hn : w.heap.size ≤ n0) (hl : l.length ≤ 255) (hfl : (Nm.fold l).length = l.length) (h : OnceSt t l 0 n0 w W) :
    Calls Tryd.prog 41 #[.pointer (some ⟨t.T, 0, none⟩), .string ⟨l.toArray⟩] W fun e w' => e = .returned (.tuple #[.int .i64 0, .bool false]) ∧ OnceSt t l 0 n0 w w' :=
  (tv_nofind (xt t) t 4096 [] n0 l W h.tv (by omega) (by omega) (fun e he => by cases he)).mono fun e w' ⟨he, hk⟩ => ⟨he, h.go hn hk⟩
end Go.Proofs.YtdbaocphglijbaaDoor
