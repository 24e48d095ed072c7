/- Times, as plain numbers; what package age, and the document's answer for it, tell. No condition. -/
import Derived.Test.YtedcjkfiljjpiaaBase
import Derived.RegionTactic
import Derived.BigRegion
namespace Go.Proofs.Ytedcjkfiljjpiaa.Ag

def isT (n : Int) : Bool := decide (0 ≤ n ∧ n ≤ 1099511627776)
def till (now ttl : Int) : Int := if isT now && decide (0 ≤ ttl) then now + min ttl 604800 else -1
def live (now u : Int) : Bool := isT now && decide (now < u)
def left (now u : Int) : Int := if live now u then min (u - now) 604800 else 0
def dueOk (now wait : Int) : Bool := isT now && isT wait && isT (now + wait)
def due (now wait : Int) : Int := if dueOk now wait then now + wait else 0
end Go.Proofs.Ytedcjkfiljjpiaa.Ag

namespace Go.Proofs.Ytedcjkfiljjpiaa
open Go.RowKit

theorem isTime_any (n : Int) (w : World) :
    Calls Try.prog 63 #[.int .i64 n] w fun e w' => e = .returned (.bool (Ag.isT n)) ∧ w' = w := by
  by_cases h1 : 0 ≤ n
  · by_cases h2 : n ≤ 1099511627776
    · go_enter Try.func63, Try.ntmps63
      go_wp2
      go_ret
      exact ⟨ret_bool (by simp [Ag.isT]; omega), rfl⟩
    · go_enter Try.func63, Try.ntmps63
      go_wp2
      go_ret
      exact ⟨ret_bool (by simp [Ag.isT]; omega), rfl⟩
  · go_enter Try.func63, Try.ntmps63
    go_wp2
    go_ret
    exact ⟨ret_bool (by simp [Ag.isT]; omega), rfl⟩

theorem refTime_any (n : Int) (w : World) :
    Calls Try.prog 34 #[.int .i64 n] w fun e w' => e = .returned (.bool (Ag.isT n)) ∧ w' = w := by
  by_cases h1 : 0 ≤ n
  · by_cases h2 : n ≤ 1099511627776
    · go_enter Try.func34, Try.ntmps34
      go_wp2
      go_ret
      exact ⟨ret_bool (by simp [Ag.isT]; omega), rfl⟩
    · go_enter Try.func34, Try.ntmps34
      go_wp2
      go_ret
      exact ⟨ret_bool (by simp [Ag.isT]; omega), rfl⟩
  · go_enter Try.func34, Try.ntmps34
    go_wp2
    go_ret
    exact ⟨ret_bool (by simp [Ag.isT]; omega), rfl⟩

theorem until_any (now ttl : Int) (w : World) (hb : -9223372036854775808 ≤ ttl ∧ ttl ≤ 9223372036854775807) :
    Calls Try.prog 39 #[.int .i64 now, .int .i64 ttl] w fun e w' => e = .returned (.int .i64 (Ag.till now ttl)) ∧ w' = w := by
  cases h1 : Ag.isT now
  · go_enter Try.func39, Try.ntmps39
    go_wp2_with fail
    refine (isTime_any _ _).mono ?_
    rintro e w1 ⟨rfl, rfl⟩
    rw [h1]
    go_wp2
    go_ret
    exact ⟨ret_int (by simp [Ag.till, h1]), rfl⟩
  · by_cases h2 : 0 ≤ ttl
    · go_enter Try.func39, Try.ntmps39
      go_wp2_with fail
      refine (isTime_any _ _).mono ?_
      rintro e w1 ⟨rfl, rfl⟩
      rw [h1]
      have h1' := h1
      simp only [Ag.isT, decide_eq_true_eq] at h1'
      go_wp2
      all_goals (go_ret; exact ⟨ret_int (by simp only [Ag.till, h1, decide_eq_true h2, Bool.and_self, if_true]; omega), rfl⟩)
    · go_enter Try.func39, Try.ntmps39
      go_wp2_with fail
      refine (isTime_any _ _).mono ?_
      rintro e w1 ⟨rfl, rfl⟩
      rw [h1]
      go_wp2
      go_ret
      exact ⟨ret_int (by simp only [Ag.till, decide_eq_false (show ¬ 0 ≤ ttl by omega), Bool.and_false, Bool.false_eq_true, if_false]), rfl⟩

theorem refUntil_any (now ttl : Int) (w : World) (hb : -9223372036854775808 ≤ ttl ∧ ttl ≤ 9223372036854775807) :
    Calls Try.prog 36 #[.int .i64 now, .int .i64 ttl] w fun e w' => e = .returned (.int .i64 (Ag.till now ttl)) ∧ w' = w := by
  cases h1 : Ag.isT now
  · go_enter Try.func36, Try.ntmps36
    go_wp2_with fail
    refine (refTime_any _ _).mono ?_
    rintro e w1 ⟨rfl, rfl⟩
    rw [h1]
    go_wp2
    go_ret
    exact ⟨ret_int (by simp [Ag.till, h1]), rfl⟩
  · by_cases h2 : 0 ≤ ttl
    · go_enter Try.func36, Try.ntmps36
      go_wp2_with fail
      refine (refTime_any _ _).mono ?_
      rintro e w1 ⟨rfl, rfl⟩
      rw [h1]
      have h1' := h1
      simp only [Ag.isT, decide_eq_true_eq] at h1'
      go_wp2
      all_goals (go_ret; exact ⟨ret_int (by simp only [Ag.till, h1, decide_eq_true h2, Bool.and_self, if_true]; omega), rfl⟩)
    · go_enter Try.func36, Try.ntmps36
      go_wp2_with fail
      refine (refTime_any _ _).mono ?_
      rintro e w1 ⟨rfl, rfl⟩
      rw [h1]
      go_wp2
      go_ret
      exact ⟨ret_int (by simp only [Ag.till, decide_eq_false (show ¬ 0 ≤ ttl by omega), Bool.and_false, Bool.false_eq_true, if_false]), rfl⟩

theorem ageLive_any (now u : Int) (w : World) :
    Calls Try.prog 42 #[.int .i64 now, .int .i64 u] w fun e w' => e = .returned (.bool (Ag.live now u)) ∧ w' = w := by
  cases h1 : Ag.isT now
  · go_enter Try.func42, Try.ntmps42
    go_wp2_with fail
    refine (isTime_any _ _).mono ?_
    rintro e w1 ⟨rfl, rfl⟩
    rw [h1]
    go_wp2
    go_ret
    exact ⟨ret_bool (by simp [Ag.live, h1]), rfl⟩
  · go_enter Try.func42, Try.ntmps42
    go_wp2_with fail
    refine (isTime_any _ _).mono ?_
    rintro e w1 ⟨rfl, rfl⟩
    rw [h1]
    go_wp2
    go_ret
    exact ⟨ret_bool (by simp [Ag.live, h1]), rfl⟩

theorem refAgeLive_any (now u : Int) (w : World) :
    Calls Try.prog 37 #[.int .i64 now, .int .i64 u] w fun e w' => e = .returned (.bool (Ag.live now u)) ∧ w' = w := by
  cases h1 : Ag.isT now
  · go_enter Try.func37, Try.ntmps37
    go_wp2_with fail
    refine (refTime_any _ _).mono ?_
    rintro e w1 ⟨rfl, rfl⟩
    rw [h1]
    go_wp2
    go_ret
    exact ⟨ret_bool (by simp [Ag.live, h1]), rfl⟩
  · go_enter Try.func37, Try.ntmps37
    go_wp2_with fail
    refine (refTime_any _ _).mono ?_
    rintro e w1 ⟨rfl, rfl⟩
    rw [h1]
    go_wp2
    go_ret
    exact ⟨ret_bool (by simp [Ag.live, h1]), rfl⟩

end Go.Proofs.Ytedcjkfiljjpiaa
