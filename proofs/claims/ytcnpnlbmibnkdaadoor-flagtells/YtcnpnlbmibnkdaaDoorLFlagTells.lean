/- FlagTells answers true, for every input: the walk. The condition: the table of places reads as the program's text lays it. -/
import Derived.Test.YtcnpnlbmibnkdaaDoorFlagLaw
namespace Go.Proofs.YtcnpnlbmibnkdaaDoor
open Go.RowKit

theorem of_b64_FlagTells (f b : Int) : -9223372036854775808 ≤ Fl.of f b ∧ Fl.of f b ≤ 9223372036854775807 := by have := of_bound f b; omega

set_option maxHeartbeats 3200000 in
theorem FlagTells_walk (f b v : Int) (w : World) (T : Tab w) (_ : (-9223372036854775808 ≤ f ∧ f ≤ 9223372036854775807)) (_ : (-9223372036854775808 ≤ b ∧ b ≤ 9223372036854775807)) (hv : (-9223372036854775808 ≤ v ∧ v ≤ 9223372036854775807)) :
    Calls Tryd.prog 3 #[.int .i64 f, .int .i64 b, .int .i64 v] w fun e w' => e = .returned (.bool true) ∧ Keeps w w' := by
  have K := hide (Keeps.refl w)
  have T0 := hide T
  clear T
  go_enter Tryd.func3, Tryd.ntmps3
  go_wp2_with (first | (go_at_call 8; refine (with_any _ _ _ _ (T0.out.keeps K.out) (by first | exact of_b64_FlagTells _ _ | omega)).mono ?_; rintro e w5 ⟨rfl, k5⟩; replace K := hide (K.out.trans k5); clear k5) | (go_at_call 10; refine (of_any _ _ _ (T0.out.keeps K.out)).mono ?_; rintro e w5 ⟨rfl, k5⟩; replace K := hide (K.out.trans k5); clear k5) | (go_at_call 12; refine (answer_any _ _ _ (T0.out.keeps K.out) (by omega)).mono ?_; rintro e w5 ⟨rfl, k5⟩; replace K := hide (K.out.trans k5); clear k5) | (go_at_call 14; refine (live7_any _ (T0.out.keeps K.out)).mono ?_; rintro e w5 ⟨rfl, k5⟩; replace K := hide (K.out.trans k5); clear k5) | (go_at_call 9; refine (refwith_any _ _ _ _).mono ?_; rintro e w5 ⟨rfl, k5⟩; replace K := hide (K.out.trans k5); clear k5) | (go_at_call 11; refine (refof_any _ _ _).mono ?_; rintro e w5 ⟨rfl, k5⟩; replace K := hide (K.out.trans k5); clear k5) | (go_at_call 13; refine (refanswer_any _ _ _ (by omega)).mono ?_; rintro e w5 ⟨rfl, k5⟩; replace K := hide (K.out.trans k5); clear k5))
  go_ret
  exact ⟨rfl, K.out⟩
end Go.Proofs.YtcnpnlbmibnkdaaDoor
