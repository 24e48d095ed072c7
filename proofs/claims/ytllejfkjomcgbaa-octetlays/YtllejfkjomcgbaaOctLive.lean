/- The examples that the statements of layer 1 ask for answer true. -/
import Derived.Test.YtllejfkjomcgbaaOctWalk2
import Derived.Test.YtllejfkjomcgbaaOctWalk3
import Derived.Test.YtllejfkjomcgbaaOctWalk5
namespace Go.Proofs.Ytllejfkjomcgbaa
open Go.RowKit

theorem live_any (w : World) : Calls Try.prog 9 #[] w fun e w' => e = .returned (.bool true) ∧ Keeps w w' := by
  have e1 : Oct.getN ⟨#[1, 2, 3]⟩ 1 2 = 515 := by decide +kernel
  have e2 : Oct.getOk ⟨#[1, 2, 3]⟩ 1 2 = true := by decide +kernel
  have e3 : Oct.layS ⟨#[97, 98, 99, 100]⟩ 1 ⟨#[120, 121]⟩ = ⟨#[97, 120, 121, 100]⟩ := by decide +kernel
  have e4 : Oct.layOk ⟨#[97, 98, 99, 100]⟩ 1 ⟨#[120, 121]⟩ = true := by decide +kernel
  have e5 : Oct.takeOk ⟨#[97, 98, 99]⟩ 2 2 = false := by decide +kernel
  have e6 : Oct.takeS ⟨#[97, 98, 99]⟩ 3 0 = ⟨#[]⟩ := by decide +kernel
  have e7 : Oct.takeOk ⟨#[97, 98, 99]⟩ 3 0 = true := by decide +kernel
  have e8 : Oct.putS 258 2 = ⟨#[1, 2]⟩ := by decide +kernel
  have e9 : Oct.putS 256 1 = ⟨#[]⟩ := by decide +kernel
  have e10 : Oct.putS 1 5 = ⟨#[]⟩ := by decide +kernel
  have m3 : (⟨#[97, 98, 99]⟩ : ByteArray).size ≤ maxLen := by decide +kernel
  have m4 : (⟨#[97, 98, 99, 100]⟩ : ByteArray).size ≤ maxLen := by decide +kernel
  have m2 : (⟨#[120, 121]⟩ : ByteArray).size ≤ maxLen := by decide +kernel
  have m1 : (⟨#[1, 2, 3]⟩ : ByteArray).size ≤ maxLen := by decide +kernel
  go_enter Try.func9, Try.ntmps9
  go_wp2_with fail
  refine (get_any _ _ _ _ m1 (by decide)).mono ?_
  rintro e w1 ⟨rfl, hw1⟩
  subst hw1
  go_wp2_with fail
  refine (lay_any _ _ _ _ m4 m2 (by decide)).mono ?_
  rintro e w2 ⟨rfl, k2⟩
  go_wp2_with fail
  refine (take_any _ _ _ _ m3 (by decide)).mono ?_
  rintro e w3 ⟨rfl, hw3⟩
  subst hw3
  go_wp2_with fail
  refine (take_any _ _ _ _ m3 (by decide)).mono ?_
  rintro e w3 ⟨rfl, hw3⟩
  subst hw3
  go_wp2_with fail
  refine (put_any _ _ _).mono ?_
  rintro e w5 ⟨rfl, k5⟩
  rw [e8]
  go_wp2_with fail
  refine (put_any _ _ _).mono ?_
  rintro e w6 ⟨rfl, k6⟩
  rw [e9]
  go_wp2_with fail
  refine (put_any _ _ _).mono ?_
  rintro e w7 ⟨rfl, k7⟩
  rw [e10]
  go_wp2
  go_ret
  exact ⟨rfl, ((k2.trans k5).trans k6).trans k7⟩
end Go.Proofs.Ytllejfkjomcgbaa
