/- The examples that the statements of layer 3 ask for answer true. -/
import Derived.Test.YtncgflnjphhhlaaMixRef1
namespace Go.Proofs.Ytncgflnjphhhlaa
open Go.RowKit

theorem small_max (s : ByteArray) (h : s.size ≤ 100) : s.size ≤ maxLen := by unfold maxLen; omega

set_option maxHeartbeats 1600000 in
theorem live3_any (w : World) : Calls Try.prog 7 #[] w fun e w' => e = .returned (.bool true) ∧ Keeps w w' := by
  have a1 : lettersOf ⟨#[1, 97, 2, 66, 49, 0]⟩ = 2 := by decide +kernel
  have a2 : mixS ⟨#[1, 97, 2, 66, 49, 0]⟩ 0 = ⟨#[1, 97, 2, 98, 49, 0]⟩ := by decide +kernel
  have a3 : mixS ⟨#[1, 97, 2, 66, 49, 0]⟩ 3 = ⟨#[1, 65, 2, 66, 49, 0]⟩ := by decide +kernel
  have a4 : bitsOf ⟨#[1, 97, 2, 66, 49, 0]⟩ = 2 := by decide +kernel
  have a5 : (Nm.okL (bl ⟨#[1, 97, 2, 66, 49, 0]⟩) && (bl ⟨#[1, 97, 2, 66, 49, 0]⟩ == bl ⟨#[1, 97, 2, 66, 49, 0]⟩)) = true := by decide +kernel
  have a6 : (Nm.okL (bl ⟨#[1, 97, 2, 66, 49, 0]⟩) && (bl ⟨#[1, 97, 2, 66, 49, 0]⟩ == bl ⟨#[1, 97, 2, 98, 49, 0]⟩)) = false := by decide +kernel
  have a7 : (Nm.okL (bl ⟨#[97]⟩) && (bl ⟨#[97]⟩ == bl ⟨#[97]⟩)) = false := by decide +kernel
  have a8 : mixS ⟨#[1, 97, 2, 66, 49, 0]⟩ (-1) = ⟨#[]⟩ := by decide +kernel
  have a9 : mixS ⟨#[97]⟩ 0 = ⟨#[]⟩ := by decide +kernel
  have a10 : lettersOf ⟨#[97]⟩ = 0 := by decide +kernel
  have m1 : (⟨#[1, 97, 2, 66, 49, 0]⟩ : ByteArray).size ≤ maxLen := small_max _ (by decide)
  have m2 : (⟨#[97]⟩ : ByteArray).size ≤ maxLen := small_max _ (by decide)
  go_enter Try.func7, Try.ntmps7
  go_wp2_with fail
  refine (letters_any _ _ m1).mono ?_
  rintro e wk1 ⟨rfl, k1⟩
  rw [a1]
  go_wp2_with fail
  refine (mix_any _ _ _ m1).mono ?_
  rintro e wk2 ⟨rfl, k2⟩
  rw [a2]
  go_wp2_with fail
  refine (mix_any _ _ _ m1).mono ?_
  rintro e wk3 ⟨rfl, k3⟩
  rw [a3]
  go_wp2_with fail
  refine (bits_any _ _ m1).mono ?_
  rintro e wk4 ⟨rfl, k4⟩
  rw [a4]
  go_wp2_with fail
  refine (echoes_any _ _ _ m1).mono ?_
  rintro e wq ⟨rfl, hw⟩
  subst hw
  rw [a5]
  go_wp2_with fail
  refine (echoes_any _ _ _ m1).mono ?_
  rintro e wq ⟨rfl, hw⟩
  subst hw
  rw [a6]
  go_wp2_with fail
  refine (echoes_any _ _ _ m2).mono ?_
  rintro e wq ⟨rfl, hw⟩
  subst hw
  rw [a7]
  go_wp2_with fail
  refine (mix_any _ _ _ m1).mono ?_
  rintro e wk5 ⟨rfl, k5⟩
  rw [a8]
  go_wp2_with fail
  refine (mix_any _ _ _ m2).mono ?_
  rintro e wk6 ⟨rfl, k6⟩
  rw [a9]
  go_wp2_with fail
  refine (letters_any _ _ m2).mono ?_
  rintro e wk7 ⟨rfl, k7⟩
  rw [a10]
  go_wp2
  go_ret
  exact ⟨rfl, (((((k1.trans k2).trans k3).trans k4).trans k5).trans k6).trans k7⟩
end Go.Proofs.Ytncgflnjphhhlaa
