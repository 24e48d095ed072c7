/- FlagCodes answers true, for every input: the walk. The condition: the table of places reads as the program's text lays it. -/
import Derived.Test.YtcnpnlbmibnkdaaDoorFlagLaw
namespace Go.Proofs.YtcnpnlbmibnkdaaDoor
open Go.RowKit

theorem of_b64_FlagCodes (f b : Int) : -9223372036854775808 ≤ Fl.of f b ∧ Fl.of f b ≤ 9223372036854775807 := by have := of_bound f b; omega

theorem codes_laid (s a b : Int) : Fl.may 8 (Fl.answer s a) (Fl.of 8 (Fl.answer s b)) = true ∧ Fl.with_ 8 (Fl.answer s a) (Fl.of 8 (Fl.answer s b)) = Fl.answer s b ∧ (Fl.answer s a == Fl.answer s b) = (Fl.code a == Fl.code b) := by
  obtain ⟨h1, h2, h3⟩ := of_b s
  have hc : 0 ≤ Fl.code a ∧ Fl.code a < 16 := by unfold Fl.code; omega
  have hd : 0 ≤ Fl.code b ∧ Fl.code b < 16 := by unfold Fl.code; omega
  have hA : Fl.answer s a = 32896 + Fl.code a + Fl.of 1 s * 2048 + Fl.of 4 s * 256 + Fl.of 7 s * 16 := rfl
  have hB : Fl.answer s b = 32896 + Fl.code b + Fl.of 1 s * 2048 + Fl.of 4 s * 256 + Fl.of 7 s * 16 := rfl
  generalize Fl.code a = k at *
  generalize Fl.code b = l at *
  generalize Fl.of 1 s = x at *
  generalize Fl.of 4 s = y at *
  generalize Fl.of 7 s = z at *
  generalize Fl.answer s a = A at *
  generalize Fl.answer s b = C at *
  have bA : 0 ≤ A ∧ A ≤ 65535 := by omega
  have bC : 0 ≤ C ∧ C ≤ 65535 := by omega
  obtain ⟨_, _, _, _, _, _, _, _, e8⟩ := Fl.ofs bC
  have hm : Fl.may 8 A (Fl.of 8 C) = true := Fl.may_iff.2 ⟨by decide, bA, by rw [e8]; simp [Fl.sz]; omega⟩
  refine ⟨hm, ?_, ?_⟩
  · rw [with_yes hm, Fl.lay, e8]
    simp [Fl.get, Fl.pw, Fl.sz]
    omega
  · by_cases h : k = l
    · subst h; simp; omega
    · have : A ≠ C := by omega
      rw [beq_eq_false_iff_ne.2 this, beq_eq_false_iff_ne.2 h]

set_option maxHeartbeats 3200000 in
theorem FlagCodes_walk (s a b : Int) (w : World) (T : Tab w) (_ : (-9223372036854775808 ≤ s ∧ s ≤ 9223372036854775807)) (ha : (-9223372036854775808 ≤ a ∧ a ≤ 9223372036854775807)) (hb : (-9223372036854775808 ≤ b ∧ b ≤ 9223372036854775807)) :
    Calls Tryd.prog 6 #[.int .i64 s, .int .i64 a, .int .i64 b] w fun e w' => e = .returned (.bool true) ∧ Keeps w w' := by
  have K := hide (Keeps.refl w)
  have T0 := hide T
  clear T
  obtain ⟨e1, e2, e3⟩ := codes_laid s a b
  have HC := hide (show Fl.code a = max a 0 % 16 from rfl)
  have HD := hide (show Fl.code b = max b 0 % 16 from rfl)
  by_cases ha0 : a < 0
  · rw [show Fl.code a = 0 by rw [HC.out]; omega] at e3
    by_cases hb0 : b < 0
    · rw [show Fl.code b = 0 by rw [HD.out]; omega] at e3
      go_enter Tryd.func6, Tryd.ntmps6
      go_wp2_with (first | (go_at_call 8; refine (with_any _ _ _ _ (T0.out.keeps K.out) (by first | exact of_b64_FlagCodes _ _ | omega)).mono ?_; rintro e w5 ⟨rfl, k5⟩; replace K := hide (K.out.trans k5); clear k5) | (go_at_call 10; refine (of_any _ _ _ (T0.out.keeps K.out)).mono ?_; rintro e w5 ⟨rfl, k5⟩; replace K := hide (K.out.trans k5); clear k5) | (go_at_call 12; refine (answer_any _ _ _ (T0.out.keeps K.out) (by omega)).mono ?_; rintro e w5 ⟨rfl, k5⟩; replace K := hide (K.out.trans k5); clear k5) | (go_at_call 14; refine (live7_any _ (T0.out.keeps K.out)).mono ?_; rintro e w5 ⟨rfl, k5⟩; replace K := hide (K.out.trans k5); clear k5))
      go_ret
      exact ⟨rfl, K.out⟩
    · rw [show Fl.code b = b % 16 by rw [HD.out]; omega] at e3
      go_enter Tryd.func6, Tryd.ntmps6
      go_wp2_with (first | (go_at_call 8; refine (with_any _ _ _ _ (T0.out.keeps K.out) (by first | exact of_b64_FlagCodes _ _ | omega)).mono ?_; rintro e w5 ⟨rfl, k5⟩; replace K := hide (K.out.trans k5); clear k5) | (go_at_call 10; refine (of_any _ _ _ (T0.out.keeps K.out)).mono ?_; rintro e w5 ⟨rfl, k5⟩; replace K := hide (K.out.trans k5); clear k5) | (go_at_call 12; refine (answer_any _ _ _ (T0.out.keeps K.out) (by omega)).mono ?_; rintro e w5 ⟨rfl, k5⟩; replace K := hide (K.out.trans k5); clear k5) | (go_at_call 14; refine (live7_any _ (T0.out.keeps K.out)).mono ?_; rintro e w5 ⟨rfl, k5⟩; replace K := hide (K.out.trans k5); clear k5))
      go_ret
      exact ⟨rfl, K.out⟩
  · rw [show Fl.code a = a % 16 by rw [HC.out]; omega] at e3
    by_cases hb0 : b < 0
    · rw [show Fl.code b = 0 by rw [HD.out]; omega] at e3
      go_enter Tryd.func6, Tryd.ntmps6
      go_wp2_with (first | (go_at_call 8; refine (with_any _ _ _ _ (T0.out.keeps K.out) (by first | exact of_b64_FlagCodes _ _ | omega)).mono ?_; rintro e w5 ⟨rfl, k5⟩; replace K := hide (K.out.trans k5); clear k5) | (go_at_call 10; refine (of_any _ _ _ (T0.out.keeps K.out)).mono ?_; rintro e w5 ⟨rfl, k5⟩; replace K := hide (K.out.trans k5); clear k5) | (go_at_call 12; refine (answer_any _ _ _ (T0.out.keeps K.out) (by omega)).mono ?_; rintro e w5 ⟨rfl, k5⟩; replace K := hide (K.out.trans k5); clear k5) | (go_at_call 14; refine (live7_any _ (T0.out.keeps K.out)).mono ?_; rintro e w5 ⟨rfl, k5⟩; replace K := hide (K.out.trans k5); clear k5))
      go_ret
      exact ⟨rfl, K.out⟩
    · rw [show Fl.code b = b % 16 by rw [HD.out]; omega] at e3
      go_enter Tryd.func6, Tryd.ntmps6
      go_wp2_with (first | (go_at_call 8; refine (with_any _ _ _ _ (T0.out.keeps K.out) (by first | exact of_b64_FlagCodes _ _ | omega)).mono ?_; rintro e w5 ⟨rfl, k5⟩; replace K := hide (K.out.trans k5); clear k5) | (go_at_call 10; refine (of_any _ _ _ (T0.out.keeps K.out)).mono ?_; rintro e w5 ⟨rfl, k5⟩; replace K := hide (K.out.trans k5); clear k5) | (go_at_call 12; refine (answer_any _ _ _ (T0.out.keeps K.out) (by omega)).mono ?_; rintro e w5 ⟨rfl, k5⟩; replace K := hide (K.out.trans k5); clear k5) | (go_at_call 14; refine (live7_any _ (T0.out.keeps K.out)).mono ?_; rintro e w5 ⟨rfl, k5⟩; replace K := hide (K.out.trans k5); clear k5))
      go_ret
      exact ⟨rfl, K.out⟩
end Go.Proofs.YtcnpnlbmibnkdaaDoor
