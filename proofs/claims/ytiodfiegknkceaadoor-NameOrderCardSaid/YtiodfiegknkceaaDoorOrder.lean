/- NameOrder: its walk. -/
import Derived.Test.YtiodfiegknkceaaDoorOrderMath
import Derived.Test.YtiodfiegknkceaaDoorFrame
namespace Go.Proofs.YtiodfiegknkceaaDoor
open Go.RowKit Go.Shelf

namespace Nm
theorem order_cases {a b c : List UInt8} (ha : valid a = true) (hb : valid b = true) (hc : valid c = true) :
    (less a b = true ∧ less b a = false ∧ same a b = false ∧ under a b = false ∧ less b c = true ∧ less a c = true) ∨
    (less a b = true ∧ less b a = false ∧ same a b = false ∧ under a b = false ∧ less b c = false) ∨
    (less a b = false ∧ less b a = true ∧ same a b = false ∧ under a b = false) ∨
    (less a b = false ∧ less b a = true ∧ same a b = false ∧ under a b = true ∧ under b c = false) ∨
    (less a b = false ∧ less b a = true ∧ same a b = false ∧ under a b = true ∧ under b c = true ∧ under a c = true) ∨
    (less a b = false ∧ less b a = false ∧ same a b = true ∧ under a b = true ∧ under b c = false) ∨
    (less a b = false ∧ less b a = false ∧ same a b = true ∧ under a b = true ∧ under b c = true ∧ under a c = true) := by
  rcases order_tri ha hb with ⟨h1, h2, h3⟩ | ⟨h1, h2, h3⟩ | ⟨h1, h2, h3⟩
  · have hu : under a b = false := by
      cases hu : under a b
      · rfl
      · rcases order_under ha hb hu with e | e
        · rw [h3] at e; cases e
        · rw [h2] at e; cases e
    cases hbc : less b c
    · exact .inr (.inl ⟨h1, h2, h3, hu, rfl⟩)
    · exact .inl ⟨h1, h2, h3, hu, rfl, order_trans ha hb hc h1 hbc⟩
  · cases hu : under a b
    · exact .inr (.inr (.inl ⟨h1, h2, h3, rfl⟩))
    · cases hbc : under b c
      · exact .inr (.inr (.inr (.inl ⟨h1, h2, h3, rfl, rfl⟩)))
      · exact .inr (.inr (.inr (.inr (.inl ⟨h1, h2, h3, rfl, rfl, under_trans ha hb hc hu hbc⟩))))
  · have hu := under_same ha hb h3
    cases hbc : under b c
    · exact .inr (.inr (.inr (.inr (.inr (.inl ⟨h1, h2, h3, hu, rfl⟩)))))
    · exact .inr (.inr (.inr (.inr (.inr (.inr ⟨h1, h2, h3, hu, rfl, under_trans ha hb hc hu hbc⟩)))))
end Nm

set_option maxRecDepth 100000 in
set_option maxHeartbeats 4000000 in
theorem order_any (a b c : List UInt8) (w : World) (ha : a.length ≤ 9223372036854775807) (hb : b.length ≤ 9223372036854775807) (hc : c.length ≤ 9223372036854775807) (hv : VarsOk w) :
    Calls Tryd.prog 5 #[.string ⟨a.toArray⟩, .string ⟨b.toArray⟩, .string ⟨c.toArray⟩] w fun e w' => e = .returned (.bool true) ∧ Below w.heap.size w w' := by
  obtain ⟨xa, hxa⟩ : ∃ x, Nm.valid a = x := ⟨_, rfl⟩
  obtain ⟨xb, hxb⟩ : ∃ x, Nm.valid b = x := ⟨_, rfl⟩
  obtain ⟨xc, hxc⟩ : ∃ x, Nm.valid c = x := ⟨_, rfl⟩
  have HA := Lib.hid hxa
  have HB := Lib.hid hxb
  have HC := Lib.hid hxc
  by_cases hg : 300 < a.length ∨ 300 < b.length ∨ 300 < c.length ∨ xa = false ∨ xb = false ∨ xc = false
  · have hg' : (300 < a.length) ∨ (a.length ≤ 300 ∧ 300 < b.length) ∨ (a.length ≤ 300 ∧ b.length ≤ 300 ∧ 300 < c.length) ∨ (a.length ≤ 300 ∧ b.length ≤ 300 ∧ c.length ≤ 300 ∧ xa = false) ∨ (a.length ≤ 300 ∧ b.length ≤ 300 ∧ c.length ≤ 300 ∧ xa = true ∧ xb = false) ∨ (a.length ≤ 300 ∧ b.length ≤ 300 ∧ c.length ≤ 300 ∧ xa = true ∧ xb = true ∧ xc = false) := by
      by_cases g1 : 300 < a.length
      · exact .inl g1
      · by_cases g2 : 300 < b.length
        · exact .inr (.inl ⟨by omega, g2⟩)
        · by_cases g3 : 300 < c.length
          · exact .inr (.inr (.inl ⟨by omega, by omega, g3⟩))
          · cases xa
            · exact .inr (.inr (.inr (.inl ⟨by omega, by omega, by omega, rfl⟩)))
            · cases xb
              · exact .inr (.inr (.inr (.inr (.inl ⟨by omega, by omega, by omega, rfl, rfl⟩))))
              · cases xc
                · exact .inr (.inr (.inr (.inr (.inr ⟨by omega, by omega, by omega, rfl, rfl, rfl⟩))))
                · simp at hg; omega
    clear hg hxa hxb hxc
    rcases hg' with g1 | ⟨g1, g2⟩ | ⟨g1, g2, g3⟩ | ⟨g1, g2, g3, rfl⟩ | ⟨g1, g2, g3, rfl, rfl⟩ | ⟨g1, g2, g3, rfl, rfl, rfl⟩
    all_goals
      go_enter Tryd.func5, Tryd.ntmps5
      go_wp2_with (first
        | (go_at_call 15; with_reducible refine (valid_any a _ (by omega)).mono ?_; rw [HA.out]; rintro e w' ⟨rfl, rfl⟩)
        | (go_at_call 15; with_reducible refine (valid_any b _ (by omega)).mono ?_; rw [HB.out]; rintro e w' ⟨rfl, rfl⟩)
        | (go_at_call 15; with_reducible refine (valid_any c _ (by omega)).mono ?_; rw [HC.out]; rintro e w' ⟨rfl, rfl⟩)
        | (go_at_call 11; refine (awake_any _ hv).mono ?_; rintro e w1 ⟨rfl, b1⟩))
      go_ret
      exact ⟨rfl, b1⟩
  · have g1 : a.length ≤ 300 := by omega
    have g2 : b.length ≤ 300 := by omega
    have g3 : c.length ≤ 300 := by omega
    obtain rfl : xa = true := by cases xa <;> simp_all
    obtain rfl : xb = true := by cases xb <;> simp_all
    obtain rfl : xc = true := by cases xc <;> simp_all
    have U1 := Lib.hid (Nm.under_refl hxa)
    have U2 := Lib.hid (Nm.under_root hxa)
    have key := Nm.order_cases hxa hxb hxc
    obtain ⟨lab, h1⟩ : ∃ x, Nm.less a b = x := ⟨_, rfl⟩
    obtain ⟨lba, h2⟩ : ∃ x, Nm.less b a = x := ⟨_, rfl⟩
    obtain ⟨sab, h3⟩ : ∃ x, Nm.same a b = x := ⟨_, rfl⟩
    obtain ⟨uab, h4⟩ : ∃ x, Nm.under a b = x := ⟨_, rfl⟩
    obtain ⟨lbc, h5⟩ : ∃ x, Nm.less b c = x := ⟨_, rfl⟩
    obtain ⟨lac, h6⟩ : ∃ x, Nm.less a c = x := ⟨_, rfl⟩
    obtain ⟨ubc, h7⟩ : ∃ x, Nm.under b c = x := ⟨_, rfl⟩
    obtain ⟨uac, h8⟩ : ∃ x, Nm.under a c = x := ⟨_, rfl⟩
    rw [h1, h2, h3, h4, h5, h6, h7, h8] at key
    have H1 := Lib.hid h1
    have H2 := Lib.hid h2
    have H3 := Lib.hid h3
    have H4 := Lib.hid h4
    have H5 := Lib.hid h5
    have H6 := Lib.hid h6
    have H7 := Lib.hid h7
    have H8 := Lib.hid h8
    clear hg hxa hxb hxc h1 h2 h3 h4 h5 h6 h7 h8
    have bb : Below w.heap.size w w := Below.refl _ _
    rcases key with ⟨rfl, rfl, rfl, rfl, rfl, rfl⟩ | ⟨rfl, rfl, rfl, rfl, rfl⟩ | ⟨rfl, rfl, rfl, rfl⟩ | ⟨rfl, rfl, rfl, rfl, rfl⟩ | ⟨rfl, rfl, rfl, rfl, rfl, rfl⟩ | ⟨rfl, rfl, rfl, rfl, rfl⟩ | ⟨rfl, rfl, rfl, rfl, rfl, rfl⟩
    all_goals
      go_enter Tryd.func5, Tryd.ntmps5
      go_wp2_with (first
        | (go_at_call 15; with_reducible refine (valid_any a _ (by omega)).mono ?_; rw [HA.out]; rintro e w' ⟨rfl, rfl⟩)
        | (go_at_call 15; with_reducible refine (valid_any b _ (by omega)).mono ?_; rw [HB.out]; rintro e w' ⟨rfl, rfl⟩)
        | (go_at_call 15; with_reducible refine (valid_any c _ (by omega)).mono ?_; rw [HC.out]; rintro e w' ⟨rfl, rfl⟩)
        | (go_at_call 32; with_reducible refine (less_any a b _ (by omega) (by omega)).mono ?_; rw [H1.out]; rintro e w' ⟨rfl, b1⟩; replace bb := below_trans bb b1; clear b1)
        | (go_at_call 32; with_reducible refine (less_any b a _ (by omega) (by omega)).mono ?_; rw [H2.out]; rintro e w' ⟨rfl, b1⟩; replace bb := below_trans bb b1; clear b1)
        | (go_at_call 28; with_reducible refine (same_any a b _ (by omega) (by omega)).mono ?_; rw [H3.out]; rintro e w' ⟨rfl, b1⟩; replace bb := below_trans bb b1.below; clear b1)
        | (go_at_call 30; with_reducible refine (under_any a b _ (by omega) (by omega)).mono ?_; rw [H4.out]; rintro e w' ⟨rfl, b1⟩; replace bb := below_trans bb b1; clear b1)
        | (go_at_call 32; with_reducible refine (less_any b c _ (by omega) (by omega)).mono ?_; rw [H5.out]; rintro e w' ⟨rfl, b1⟩; replace bb := below_trans bb b1; clear b1)
        | (go_at_call 32; with_reducible refine (less_any a c _ (by omega) (by omega)).mono ?_; rw [H6.out]; rintro e w' ⟨rfl, b1⟩; replace bb := below_trans bb b1; clear b1)
        | (go_at_call 30; with_reducible refine (under_any b c _ (by omega) (by omega)).mono ?_; rw [H7.out]; rintro e w' ⟨rfl, b1⟩; replace bb := below_trans bb b1; clear b1)
        | (go_at_call 30; with_reducible refine (under_any a c _ (by omega) (by omega)).mono ?_; rw [H8.out]; rintro e w' ⟨rfl, b1⟩; replace bb := below_trans bb b1; clear b1)
        | (go_at_call 30; with_reducible refine (under_any a a _ (by omega) (by omega)).mono ?_; rw [U1.out]; rintro e w' ⟨rfl, b1⟩; replace bb := below_trans bb b1; clear b1)
        | (go_at_call 30; refine (under_any a [0] _ (by omega) (by simp)).mono ?_; rw [U2.out]; rintro e w' ⟨rfl, b1⟩; replace bb := below_trans bb b1; clear b1)
        | (go_at_call 11; refine (awake_any _ (hv.below bb)).mono ?_; rintro e w' ⟨rfl, b1⟩; replace bb := below_trans bb b1; clear b1))
      go_ret
      exact ⟨rfl, bb⟩
end Go.Proofs.YtiodfiegknkceaaDoor
