/- The examples that the statements of layer 11 ask for answer true. -/
import Derived.Test.YtekbcpnclckakaaDoorRank
namespace Go.Proofs.YtekbcpnclckakaaDoor
open Go.RowKit

set_option maxHeartbeats 1600000 in
theorem live11_any (w : World) (T : TabR w) : Calls Tryd.prog 12 #[] w fun e w' => e = .returned (.bool true) ∧ Keeps w w' := by
  have K := hide (Keeps.refl w)
  replace T := hide T
  have e1 : Rk.rank 0 true = 5 := by decide +kernel
  have e2 : Rk.rank 1 true = 4 := by decide +kernel
  have e3 : Rk.rank 0 false = 3 := by decide +kernel
  have e4 : Rk.rank 2 true = 2 := by decide +kernel
  have e5 : Rk.rank 2 false = 1 := by decide +kernel
  have e6 : Rk.rank 1 false = 1 := by decide +kernel
  have e7 : Rk.rank 3 true = 0 := by decide +kernel
  have e8 : Rk.over 5 false 1 = true := by decide +kernel
  have e9 : Rk.over 5 true 4 = false := by decide +kernel
  have e10 : Rk.over 3 true 3 = true := by decide +kernel
  have e11 : Rk.over 0 false 6 = false := by decide +kernel
  have e12 : Rk.told 3 = true := by decide +kernel
  have e13 : Rk.told 2 = false := by decide +kernel
  have e14 : Rk.told 6 = false := by decide +kernel
  go_enter Tryd.func12, Tryd.ntmps12
  go_wp2_with fail
  refine (rank_any _ _ _ (T.out.keeps K.out)).mono ?_
  rintro e w1 ⟨rfl, k1⟩
  rw [e1]
  replace K := hide (K.out.trans k1)
  clear k1
  go_wp2_with fail
  refine (rank_any _ _ _ (T.out.keeps K.out)).mono ?_
  rintro e w2 ⟨rfl, k2⟩
  rw [e2]
  replace K := hide (K.out.trans k2)
  clear k2
  go_wp2_with fail
  refine (rank_any _ _ _ (T.out.keeps K.out)).mono ?_
  rintro e w3 ⟨rfl, k3⟩
  rw [e3]
  replace K := hide (K.out.trans k3)
  clear k3
  go_wp2_with fail
  refine (rank_any _ _ _ (T.out.keeps K.out)).mono ?_
  rintro e w4 ⟨rfl, k4⟩
  rw [e4]
  replace K := hide (K.out.trans k4)
  clear k4
  go_wp2_with fail
  refine (rank_any _ _ _ (T.out.keeps K.out)).mono ?_
  rintro e w5 ⟨rfl, k5⟩
  rw [e5]
  replace K := hide (K.out.trans k5)
  clear k5
  go_wp2_with fail
  refine (rank_any _ _ _ (T.out.keeps K.out)).mono ?_
  rintro e w6 ⟨rfl, k6⟩
  rw [e6]
  replace K := hide (K.out.trans k6)
  clear k6
  go_wp2_with fail
  refine (rank_any _ _ _ (T.out.keeps K.out)).mono ?_
  rintro e w7 ⟨rfl, k7⟩
  rw [e7]
  replace K := hide (K.out.trans k7)
  clear k7
  go_wp2_with fail
  refine (over_any _ _ _ _).mono ?_
  rintro e w1 ⟨rfl, rfl⟩
  rw [e8]
  go_wp2_with fail
  refine (over_any _ _ _ _).mono ?_
  rintro e w1 ⟨rfl, rfl⟩
  rw [e9]
  go_wp2_with fail
  refine (over_any _ _ _ _).mono ?_
  rintro e w1 ⟨rfl, rfl⟩
  rw [e10]
  go_wp2_with fail
  refine (over_any _ _ _ _).mono ?_
  rintro e w1 ⟨rfl, rfl⟩
  rw [e11]
  go_wp2_with fail
  refine (told_any _ _).mono ?_
  rintro e w1 ⟨rfl, rfl⟩
  rw [e12]
  go_wp2_with fail
  refine (told_any _ _).mono ?_
  rintro e w1 ⟨rfl, rfl⟩
  rw [e13]
  go_wp2_with fail
  refine (told_any _ _).mono ?_
  rintro e w1 ⟨rfl, rfl⟩
  rw [e14]
  go_wp2
  go_ret
  exact ⟨rfl, K.out⟩
end Go.Proofs.YtekbcpnclckakaaDoor
