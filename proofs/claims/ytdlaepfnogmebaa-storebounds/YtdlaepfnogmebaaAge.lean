/- Times, as plain numbers; what package age, and the document's answer for it, tell. No condition. -/
import Derived.Test.YtdlaepfnogmebaaBase
import Derived.RegionTactic
import Derived.BigRegion
namespace Go.Proofs.Ytdlaepfnogmebaa.Ag

def isT (n : Int) : Bool := decide (0 ≤ n ∧ n ≤ 1099511627776)
def till (now ttl : Int) : Int := if isT now && decide (0 ≤ ttl) then now + min ttl 604800 else -1
def live (now u : Int) : Bool := isT now && decide (now < u)
def left (now u : Int) : Int := if live now u then min (u - now) 604800 else 0
def dueOk (now wait : Int) : Bool := isT now && isT wait && isT (now + wait)
def due (now wait : Int) : Int := if dueOk now wait then now + wait else 0
end Go.Proofs.Ytdlaepfnogmebaa.Ag

namespace Go.Proofs.Ytdlaepfnogmebaa
open Go.RowKit

theorem isTime_any (n : Int) (w : World) :
    Calls Try.prog 108 #[.int .i64 n] w fun e w' => e = .returned (.bool (Ag.isT n)) ∧ w' = w := by
  by_cases h1 : 0 ≤ n
  · by_cases h2 : n ≤ 1099511627776
    · go_enter Try.func108, Try.ntmps108
      go_wp2
      go_ret
      exact ⟨ret_bool (by simp [Ag.isT]; omega), rfl⟩
    · go_enter Try.func108, Try.ntmps108
      go_wp2
      go_ret
      exact ⟨ret_bool (by simp [Ag.isT]; omega), rfl⟩
  · go_enter Try.func108, Try.ntmps108
    go_wp2
    go_ret
    exact ⟨ret_bool (by simp [Ag.isT]; omega), rfl⟩

theorem refTime_any (n : Int) (w : World) :
    Calls Try.prog 61 #[.int .i64 n] w fun e w' => e = .returned (.bool (Ag.isT n)) ∧ w' = w := by
  by_cases h1 : 0 ≤ n
  · by_cases h2 : n ≤ 1099511627776
    · go_enter Try.func61, Try.ntmps61
      go_wp2
      go_ret
      exact ⟨ret_bool (by simp [Ag.isT]; omega), rfl⟩
    · go_enter Try.func61, Try.ntmps61
      go_wp2
      go_ret
      exact ⟨ret_bool (by simp [Ag.isT]; omega), rfl⟩
  · go_enter Try.func61, Try.ntmps61
    go_wp2
    go_ret
    exact ⟨ret_bool (by simp [Ag.isT]; omega), rfl⟩

theorem until_any (now ttl : Int) (w : World) (hb : -9223372036854775808 ≤ ttl ∧ ttl ≤ 9223372036854775807) :
    Calls Try.prog 70 #[.int .i64 now, .int .i64 ttl] w fun e w' => e = .returned (.int .i64 (Ag.till now ttl)) ∧ w' = w := by
  cases h1 : Ag.isT now
  · go_enter Try.func70, Try.ntmps70
    go_wp2_with fail
    refine (isTime_any _ _).mono ?_
    rintro e w1 ⟨rfl, rfl⟩
    rw [h1]
    go_wp2
    go_ret
    exact ⟨ret_int (by simp [Ag.till, h1]), rfl⟩
  · by_cases h2 : 0 ≤ ttl
    · go_enter Try.func70, Try.ntmps70
      go_wp2_with fail
      refine (isTime_any _ _).mono ?_
      rintro e w1 ⟨rfl, rfl⟩
      rw [h1]
      have h1' := h1
      simp only [Ag.isT, decide_eq_true_eq] at h1'
      go_wp2
      all_goals (go_ret; exact ⟨ret_int (by simp only [Ag.till, h1, decide_eq_true h2, Bool.and_self, if_true]; omega), rfl⟩)
    · go_enter Try.func70, Try.ntmps70
      go_wp2_with fail
      refine (isTime_any _ _).mono ?_
      rintro e w1 ⟨rfl, rfl⟩
      rw [h1]
      go_wp2
      go_ret
      exact ⟨ret_int (by simp only [Ag.till, decide_eq_false (show ¬ 0 ≤ ttl by omega), Bool.and_false, Bool.false_eq_true, if_false]), rfl⟩

theorem refUntil_any (now ttl : Int) (w : World) (hb : -9223372036854775808 ≤ ttl ∧ ttl ≤ 9223372036854775807) :
    Calls Try.prog 63 #[.int .i64 now, .int .i64 ttl] w fun e w' => e = .returned (.int .i64 (Ag.till now ttl)) ∧ w' = w := by
  cases h1 : Ag.isT now
  · go_enter Try.func63, Try.ntmps63
    go_wp2_with fail
    refine (refTime_any _ _).mono ?_
    rintro e w1 ⟨rfl, rfl⟩
    rw [h1]
    go_wp2
    go_ret
    exact ⟨ret_int (by simp [Ag.till, h1]), rfl⟩
  · by_cases h2 : 0 ≤ ttl
    · go_enter Try.func63, Try.ntmps63
      go_wp2_with fail
      refine (refTime_any _ _).mono ?_
      rintro e w1 ⟨rfl, rfl⟩
      rw [h1]
      have h1' := h1
      simp only [Ag.isT, decide_eq_true_eq] at h1'
      go_wp2
      all_goals (go_ret; exact ⟨ret_int (by simp only [Ag.till, h1, decide_eq_true h2, Bool.and_self, if_true]; omega), rfl⟩)
    · go_enter Try.func63, Try.ntmps63
      go_wp2_with fail
      refine (refTime_any _ _).mono ?_
      rintro e w1 ⟨rfl, rfl⟩
      rw [h1]
      go_wp2
      go_ret
      exact ⟨ret_int (by simp only [Ag.till, decide_eq_false (show ¬ 0 ≤ ttl by omega), Bool.and_false, Bool.false_eq_true, if_false]), rfl⟩

theorem ageLive_any (now u : Int) (w : World) :
    Calls Try.prog 74 #[.int .i64 now, .int .i64 u] w fun e w' => e = .returned (.bool (Ag.live now u)) ∧ w' = w := by
  cases h1 : Ag.isT now
  · go_enter Try.func74, Try.ntmps74
    go_wp2_with fail
    refine (isTime_any _ _).mono ?_
    rintro e w1 ⟨rfl, rfl⟩
    rw [h1]
    go_wp2
    go_ret
    exact ⟨ret_bool (by simp [Ag.live, h1]), rfl⟩
  · go_enter Try.func74, Try.ntmps74
    go_wp2_with fail
    refine (isTime_any _ _).mono ?_
    rintro e w1 ⟨rfl, rfl⟩
    rw [h1]
    go_wp2
    go_ret
    exact ⟨ret_bool (by simp [Ag.live, h1]), rfl⟩

theorem refAgeLive_any (now u : Int) (w : World) :
    Calls Try.prog 64 #[.int .i64 now, .int .i64 u] w fun e w' => e = .returned (.bool (Ag.live now u)) ∧ w' = w := by
  cases h1 : Ag.isT now
  · go_enter Try.func64, Try.ntmps64
    go_wp2_with fail
    refine (refTime_any _ _).mono ?_
    rintro e w1 ⟨rfl, rfl⟩
    rw [h1]
    go_wp2
    go_ret
    exact ⟨ret_bool (by simp [Ag.live, h1]), rfl⟩
  · go_enter Try.func64, Try.ntmps64
    go_wp2_with fail
    refine (refTime_any _ _).mono ?_
    rintro e w1 ⟨rfl, rfl⟩
    rw [h1]
    go_wp2
    go_ret
    exact ⟨ret_bool (by simp [Ag.live, h1]), rfl⟩

theorem left_any (now u : Int) (w : World) (hb : -9223372036854775808 ≤ u ∧ u ≤ 9223372036854775807) :
    Calls Try.prog 100 #[.int .i64 now, .int .i64 u] w fun e w' => e = .returned (.int .i64 (Ag.left now u)) ∧ w' = w := by
  cases h1 : Ag.live now u
  · go_enter Try.func100, Try.ntmps100
    go_wp2_with fail
    refine (ageLive_any _ _ _).mono ?_
    rintro e w1 ⟨rfl, rfl⟩
    rw [h1]
    go_wp2
    go_ret
    exact ⟨ret_int (by simp [Ag.left, h1]), rfl⟩
  · go_enter Try.func100, Try.ntmps100
    go_wp2_with fail
    refine (ageLive_any _ _ _).mono ?_
    rintro e w1 ⟨rfl, rfl⟩
    rw [h1]
    have h1' := h1
    simp only [Ag.live, Ag.isT, Bool.and_eq_true, decide_eq_true_eq] at h1'
    go_wp2
    all_goals (go_ret; exact ⟨ret_int (by simp only [Ag.left, h1, if_true]; omega), rfl⟩)

end Go.Proofs.Ytdlaepfnogmebaa
