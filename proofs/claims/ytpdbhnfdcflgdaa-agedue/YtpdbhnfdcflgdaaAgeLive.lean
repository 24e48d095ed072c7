/- The examples that the statements of layer 12 ask for answer true. -/
import Derived.Test.YtpdbhnfdcflgdaaAge
namespace Go.Proofs.Ytpdbhnfdcflgdaa
open Go.RowKit

set_option maxHeartbeats 1600000 in
theorem live12_any (w : World) : Calls Try.prog 15 #[] w fun e w' => e = .returned (.bool true) ∧ w' = w := by
  have e1 : Ag.due 5 7 = 12 := by decide +kernel
  have e2 : Ag.dueOk 5 7 = true := by decide +kernel
  have e3 : Ag.due 5 (-1) = 0 := by decide +kernel
  have e4 : Ag.dueOk 5 (-1) = false := by decide +kernel
  have e5 : Ag.till 10 5 = 15 := by decide +kernel
  have e6 : Ag.till 0 1099511627776 = 604800 := by decide +kernel
  have e7 : Ag.till (-1) 5 = -1 := by decide +kernel
  have e8 : Ag.till 1 (-5) = -1 := by decide +kernel
  have e9 : Ag.live 14 15 = true := by decide +kernel
  have e10 : Ag.live 15 15 = false := by decide +kernel
  have e11 : Ag.left 12 15 = 3 := by decide +kernel
  have e12 : Ag.left 15 15 = 0 := by decide +kernel
  have e13 : Ag.left 0 1099511627776 = 604800 := by decide +kernel
  go_enter Try.func15, Try.ntmps15
  go_wp2_with fail
  refine (due_any _ _ _).mono ?_
  rintro e w1 ⟨rfl, rfl⟩
  rw [e1, e2]
  go_wp2_with fail
  refine (due_any _ _ _).mono ?_
  rintro e w1 ⟨rfl, rfl⟩
  rw [e3, e4]
  go_wp2_with fail
  refine (until_any _ _ _ (by decide)).mono ?_
  rintro e w1 ⟨rfl, rfl⟩
  rw [e5]
  go_wp2_with fail
  refine (until_any _ _ _ (by decide)).mono ?_
  rintro e w1 ⟨rfl, rfl⟩
  rw [e6]
  go_wp2_with fail
  refine (until_any _ _ _ (by decide)).mono ?_
  rintro e w1 ⟨rfl, rfl⟩
  rw [e7]
  go_wp2_with fail
  refine (until_any _ _ _ (by decide)).mono ?_
  rintro e w1 ⟨rfl, rfl⟩
  rw [e8]
  go_wp2_with fail
  refine (ageLive_any _ _ _).mono ?_
  rintro e w1 ⟨rfl, rfl⟩
  rw [e9]
  go_wp2_with fail
  refine (ageLive_any _ _ _).mono ?_
  rintro e w1 ⟨rfl, rfl⟩
  rw [e10]
  go_wp2_with fail
  refine (left_any _ _ _ (by decide)).mono ?_
  rintro e w1 ⟨rfl, rfl⟩
  rw [e11]
  go_wp2_with fail
  refine (left_any _ _ _ (by decide)).mono ?_
  rintro e w1 ⟨rfl, rfl⟩
  rw [e12]
  go_wp2_with fail
  refine (left_any _ _ _ (by decide)).mono ?_
  rintro e w1 ⟨rfl, rfl⟩
  rw [e13]
  go_wp2
  go_ret
  exact ⟨rfl, rfl⟩
end Go.Proofs.Ytpdbhnfdcflgdaa
