/- AgeTells answers true, for every input: the walk. -/
import Derived.Test.YtpdbhnfdcflgdaaAgeLive
namespace Go.Proofs.Ytpdbhnfdcflgdaa
open Go.RowKit

set_option maxHeartbeats 1600000 in
theorem AgeTells_walk (now other : Int) (w : World) (_ : -9223372036854775808 ≤ now ∧ now ≤ 9223372036854775807) (ho : -9223372036854775808 ≤ other ∧ other ≤ 9223372036854775807) :
    Calls Try.prog 3 #[.int .i64 now, .int .i64 other] w fun e w' => e = .returned (.bool true) ∧ Keeps w w' := by
  generalize hT : Ag.till now other = T
  generalize hL : Ag.live now other = L
  generalize hF : Ag.left now other = F
  generalize hD : Ag.due now other = D
  generalize hO : Ag.dueOk now other = O
  go_enter Try.func3, Try.ntmps3
  go_wp2_with fail
  refine (due_any _ _ _).mono ?_
  rintro e w1 ⟨rfl, rfl⟩
  rw [hD, hO]
  go_wp2_with fail
  refine (refDue_any _ _ _).mono ?_
  rintro e w1 ⟨rfl, rfl⟩
  rw [hD, hO]
  go_wp2_with fail
  refine (until_any _ _ _ ho).mono ?_
  rintro e w1 ⟨rfl, rfl⟩
  rw [hT]
  go_wp2_with fail
  refine (refUntil_any _ _ _ ho).mono ?_
  rintro e w1 ⟨rfl, rfl⟩
  rw [hT]
  go_wp2_with fail
  refine (ageLive_any _ _ _).mono ?_
  rintro e w1 ⟨rfl, rfl⟩
  rw [hL]
  go_wp2_with fail
  refine (refAgeLive_any _ _ _).mono ?_
  rintro e w1 ⟨rfl, rfl⟩
  rw [hL]
  go_wp2_with fail
  refine (left_any _ _ _ ho).mono ?_
  rintro e w1 ⟨rfl, rfl⟩
  rw [hF]
  go_wp2_with fail
  refine (refLeft_any _ _ _ ho).mono ?_
  rintro e w1 ⟨rfl, rfl⟩
  rw [hF]
  go_wp2_with fail
  refine (live12_any _).mono ?_
  rintro e w1 ⟨rfl, rfl⟩
  go_wp2
  go_ret
  exact ⟨rfl, Keeps.refl _⟩
end Go.Proofs.Ytpdbhnfdcflgdaa
