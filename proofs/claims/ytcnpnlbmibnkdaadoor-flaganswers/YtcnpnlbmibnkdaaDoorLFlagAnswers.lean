/- FlagAnswers answers true, for every input: the walk. The condition: the table of places reads as the program's text lays it. -/
import Derived.Test.YtcnpnlbmibnkdaaDoorFlagLaw
namespace Go.Proofs.YtcnpnlbmibnkdaaDoor
open Go.RowKit

theorem of_b64_FlagAnswers (f b : Int) : -9223372036854775808 ≤ Fl.of f b ∧ Fl.of f b ≤ 9223372036854775807 := by have := of_bound f b; omega

theorem answer_facts (a c : Int) : (0 ≤ Fl.answer a c ∧ Fl.answer a c ≤ 65535) ∧ Fl.of 0 (Fl.answer a c) = 1 ∧ Fl.of 5 (Fl.answer a c) = 1 ∧ Fl.of 2 (Fl.answer a c) = 0 ∧ Fl.of 3 (Fl.answer a c) = 0 ∧ Fl.of 6 (Fl.answer a c) = 0 ∧
    Fl.of 1 (Fl.answer a c) = Fl.of 1 a ∧ Fl.of 4 (Fl.answer a c) = Fl.of 4 a ∧ Fl.of 7 (Fl.answer a c) = Fl.of 7 a ∧ Fl.of 8 (Fl.answer a c) = Fl.code c := by
  obtain ⟨h1, h2, h3⟩ := of_b a
  have hc : 0 ≤ Fl.code c ∧ Fl.code c < 16 := by unfold Fl.code; omega
  have hA : Fl.answer a c = 32896 + Fl.code c + Fl.of 1 a * 2048 + Fl.of 4 a * 256 + Fl.of 7 a * 16 := rfl
  generalize Fl.code c = k at *
  generalize Fl.of 1 a = x at *
  generalize Fl.of 4 a = y at *
  generalize Fl.of 7 a = z at *
  generalize Fl.answer a c = A at *
  have hb : 0 ≤ A ∧ A ≤ 65535 := by omega
  obtain ⟨e0, e1, e2, e3, e4, e5, e6, e7, e8⟩ := Fl.ofs hb
  rw [e0, e1, e2, e3, e4, e5, e6, e7, e8]
  refine ⟨hb, ?_, ?_, ?_, ?_, ?_, ?_, ?_, ?_, ?_⟩ <;> omega
theorem answer_again (a c : Int) : Fl.answer (Fl.answer a c) c = Fl.answer a c := by
  obtain ⟨_, _, _, _, _, _, e1, e4, e7, _⟩ := answer_facts a c
  rw [Fl.answer, e1, e4, e7]
  rfl

set_option maxHeartbeats 3200000 in
theorem FlagAnswers_walk (a c : Int) (w : World) (T : Tab w) (_ : (-9223372036854775808 ≤ a ∧ a ≤ 9223372036854775807)) (hc : (-9223372036854775808 ≤ c ∧ c ≤ 9223372036854775807)) :
    Calls Tryd.prog 5 #[.int .i64 a, .int .i64 c] w fun e w' => e = .returned (.bool true) ∧ Keeps w w' := by
  have K := hide (Keeps.refl w)
  have T0 := hide T
  clear T
  obtain ⟨⟨hb1, hb2⟩, e0, e5, e2, e3, e6, e1, e4, e7, e8⟩ := answer_facts a c
  have e9 := answer_again a c
  have HC := hide (show Fl.code c = max c 0 % 16 from rfl)
  by_cases h0 : c < 0
  · have hk : Fl.code c = 0 := by rw [HC.out]; omega
    rw [hk] at e8
    go_enter Tryd.func5, Tryd.ntmps5
    go_wp2_with fail
    refine (answer_any _ _ _ (T0.out.keeps K.out) (by omega)).mono ?_
    rintro e w5 ⟨rfl, k5⟩
    replace K := hide (K.out.trans k5)
    clear k5
    generalize Fl.answer a c = A at *
    go_wp2_with (first | (go_at_call 10; refine (of_any _ _ _ (T0.out.keeps K.out)).mono ?_; rintro e w5 ⟨rfl, k5⟩; replace K := hide (K.out.trans k5); clear k5) | (go_at_call 12; refine (answer_any _ _ _ (T0.out.keeps K.out) (by omega)).mono ?_; rintro e w5 ⟨rfl, k5⟩; replace K := hide (K.out.trans k5); clear k5) | (go_at_call 14; refine (live7_any _ (T0.out.keeps K.out)).mono ?_; rintro e w5 ⟨rfl, k5⟩; replace K := hide (K.out.trans k5); clear k5))
    go_ret
    exact ⟨rfl, K.out⟩
  · have hk : Fl.code c = c % 16 := by rw [HC.out]; omega
    rw [hk] at e8
    go_enter Tryd.func5, Tryd.ntmps5
    go_wp2_with fail
    refine (answer_any _ _ _ (T0.out.keeps K.out) (by omega)).mono ?_
    rintro e w5 ⟨rfl, k5⟩
    replace K := hide (K.out.trans k5)
    clear k5
    generalize Fl.answer a c = A at *
    go_wp2_with (first | (go_at_call 10; refine (of_any _ _ _ (T0.out.keeps K.out)).mono ?_; rintro e w5 ⟨rfl, k5⟩; replace K := hide (K.out.trans k5); clear k5) | (go_at_call 12; refine (answer_any _ _ _ (T0.out.keeps K.out) (by omega)).mono ?_; rintro e w5 ⟨rfl, k5⟩; replace K := hide (K.out.trans k5); clear k5) | (go_at_call 14; refine (live7_any _ (T0.out.keeps K.out)).mono ?_; rintro e w5 ⟨rfl, k5⟩; replace K := hide (K.out.trans k5); clear k5))
    go_ret
    exact ⟨rfl, K.out⟩
end Go.Proofs.YtcnpnlbmibnkdaaDoor
