/- RankDead answers true, for every input: the walk. The condition: the table of ranks reads as the program's text lays it. -/
import Derived.Test.YtekbcpnclckakaaDoorRankLive
namespace Go.Proofs.YtekbcpnclckakaaDoor
open Go.RowKit

set_option maxHeartbeats 3200000 in
theorem RankDead_walk (old now : Int) (alive : Bool) (w : World) (T0 : TabR w) (_ : -9223372036854775808 ≤ old ∧ old ≤ 9223372036854775807) (_ : -9223372036854775808 ≤ now ∧ now ≤ 9223372036854775807) :
    Calls Tryd.prog 5 #[.int .i64 old, .int .i64 now, .bool alive] w fun e w' => e = .returned (.bool true) ∧ Keeps w w' := by
  have T := hide T0
  clear T0
  have K := hide (Keeps.refl w)
  cases h : Rk.isR now
  · have h' := h
    simp only [Rk.isR, decide_eq_false_iff_not] at h'
    have o1 : ∀ o l, Rk.over o l now = false := fun o l => by rw [Rk.over, h, Bool.false_and]
    by_cases h1 : now < 1
    · go_enter Tryd.func5, Tryd.ntmps5
      go_wp2_with fail
      refine (over_any _ _ _ _).mono ?_
      rintro e w1 ⟨rfl, rfl⟩
      rw [o1]
      go_wp2_with fail
      refine (over_any _ _ _ _).mono ?_
      rintro e w1 ⟨rfl, rfl⟩
      rw [o1]
      go_wp2_with fail
      refine (over_any _ _ _ _).mono ?_
      rintro e w1 ⟨rfl, rfl⟩
      rw [o1]
      go_wp2_with fail
      refine (live11_any _ (T.out.keeps K.out)).mono ?_
      rintro e wz ⟨rfl, kz⟩
      replace K := hide (K.out.trans kz)
      clear kz
      go_wp2
      go_ret
      exact ⟨rfl, K.out⟩
    · have h2 : decide (now ≤ 5) = false := decide_eq_false (by omega)
      go_enter Tryd.func5, Tryd.ntmps5
      go_wp2_with fail
      refine (over_any _ _ _ _).mono ?_
      rintro e w1 ⟨rfl, rfl⟩
      rw [o1]
      go_wp2_with fail
      refine (over_any _ _ _ _).mono ?_
      rintro e w1 ⟨rfl, rfl⟩
      rw [o1]
      go_wp2_with fail
      refine (over_any _ _ _ _).mono ?_
      rintro e w1 ⟨rfl, rfl⟩
      rw [o1]
      go_wp2_with fail
      refine (live11_any _ (T.out.keeps K.out)).mono ?_
      rintro e wz ⟨rfl, kz⟩
      replace K := hide (K.out.trans kz)
      clear kz
      go_wp2
      go_ret
      exact ⟨rfl, K.out⟩
  · have h' := h
    simp only [Rk.isR, decide_eq_true_eq] at h'
    have o1 : ∀ o, Rk.over o false now = true := fun o => by simp [Rk.over, h]
    obtain ⟨h1, h2⟩ := h'
    cases o2 : Rk.over old true now
    · go_enter Tryd.func5, Tryd.ntmps5
      go_wp2_with fail
      refine (over_any _ _ _ _).mono ?_
      rintro e w1 ⟨rfl, rfl⟩
      rw [o1]
      go_wp2_with fail
      refine (over_any _ _ _ _).mono ?_
      rintro e w1 ⟨rfl, rfl⟩
      rw [o2]
      go_wp2_with fail
      refine (live11_any _ (T.out.keeps K.out)).mono ?_
      rintro e wz ⟨rfl, kz⟩
      replace K := hide (K.out.trans kz)
      clear kz
      go_wp2
      go_ret
      exact ⟨rfl, K.out⟩
    · go_enter Tryd.func5, Tryd.ntmps5
      go_wp2_with fail
      refine (over_any _ _ _ _).mono ?_
      rintro e w1 ⟨rfl, rfl⟩
      rw [o1]
      go_wp2_with fail
      refine (over_any _ _ _ _).mono ?_
      rintro e w1 ⟨rfl, rfl⟩
      rw [o2]
      go_wp2_with fail
      refine (over_any _ _ _ _).mono ?_
      rintro e w1 ⟨rfl, rfl⟩
      rw [o1]
      go_wp2_with fail
      refine (live11_any _ (T.out.keeps K.out)).mono ?_
      rintro e wz ⟨rfl, kz⟩
      replace K := hide (K.out.trans kz)
      clear kz
      go_wp2
      go_ret
      exact ⟨rfl, K.out⟩
end Go.Proofs.YtekbcpnclckakaaDoor
