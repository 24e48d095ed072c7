/- Times, as plain numbers; what package age, and the document's answer for it, tell. No condition. -/
import Derived.Test.YtpdbhnfdcflgdaaBase
import Derived.RegionTactic
import Derived.BigRegion
namespace Go.Proofs.Ytpdbhnfdcflgdaa.Ag

def isT (n : Int) : Bool := decide (0 ≤ n ∧ n ≤ 1099511627776)
def till (now ttl : Int) : Int := if isT now && decide (0 ≤ ttl) then now + min ttl 604800 else -1
def live (now u : Int) : Bool := isT now && decide (now < u)
def left (now u : Int) : Int := if live now u then min (u - now) 604800 else 0
def dueOk (now wait : Int) : Bool := isT now && isT wait && isT (now + wait)
def due (now wait : Int) : Int := if dueOk now wait then now + wait else 0
end Go.Proofs.Ytpdbhnfdcflgdaa.Ag

namespace Go.Proofs.Ytpdbhnfdcflgdaa
open Go.RowKit

theorem isTime_any (n : Int) (w : World) :
    Calls Try.prog 16 #[.int .i64 n] w fun e w' => e = .returned (.bool (Ag.isT n)) ∧ w' = w := by
  by_cases h1 : 0 ≤ n
  · by_cases h2 : n ≤ 1099511627776
    · go_enter Try.func16, Try.ntmps16
      go_wp2
      go_ret
      exact ⟨ret_bool (by simp [Ag.isT]; omega), rfl⟩
    · go_enter Try.func16, Try.ntmps16
      go_wp2
      go_ret
      exact ⟨ret_bool (by simp [Ag.isT]; omega), rfl⟩
  · go_enter Try.func16, Try.ntmps16
    go_wp2
    go_ret
    exact ⟨ret_bool (by simp [Ag.isT]; omega), rfl⟩

theorem refTime_any (n : Int) (w : World) :
    Calls Try.prog 17 #[.int .i64 n] w fun e w' => e = .returned (.bool (Ag.isT n)) ∧ w' = w := by
  by_cases h1 : 0 ≤ n
  · by_cases h2 : n ≤ 1099511627776
    · go_enter Try.func17, Try.ntmps17
      go_wp2
      go_ret
      exact ⟨ret_bool (by simp [Ag.isT]; omega), rfl⟩
    · go_enter Try.func17, Try.ntmps17
      go_wp2
      go_ret
      exact ⟨ret_bool (by simp [Ag.isT]; omega), rfl⟩
  · go_enter Try.func17, Try.ntmps17
    go_wp2
    go_ret
    exact ⟨ret_bool (by simp [Ag.isT]; omega), rfl⟩

theorem until_any (now ttl : Int) (w : World) (hb : -9223372036854775808 ≤ ttl ∧ ttl ≤ 9223372036854775807) :
    Calls Try.prog 9 #[.int .i64 now, .int .i64 ttl] w fun e w' => e = .returned (.int .i64 (Ag.till now ttl)) ∧ w' = w := by
  cases h1 : Ag.isT now
  · go_enter Try.func9, Try.ntmps9
    go_wp2_with fail
    refine (isTime_any _ _).mono ?_
    rintro e w1 ⟨rfl, rfl⟩
    rw [h1]
    go_wp2
    go_ret
    exact ⟨ret_int (by simp [Ag.till, h1]), rfl⟩
  · by_cases h2 : 0 ≤ ttl
    · go_enter Try.func9, Try.ntmps9
      go_wp2_with fail
      refine (isTime_any _ _).mono ?_
      rintro e w1 ⟨rfl, rfl⟩
      rw [h1]
      have h1' := h1
      simp only [Ag.isT, decide_eq_true_eq] at h1'
      go_wp2
      all_goals (go_ret; exact ⟨ret_int (by simp only [Ag.till, h1, decide_eq_true h2, Bool.and_self, if_true]; omega), rfl⟩)
    · go_enter Try.func9, Try.ntmps9
      go_wp2_with fail
      refine (isTime_any _ _).mono ?_
      rintro e w1 ⟨rfl, rfl⟩
      rw [h1]
      go_wp2
      go_ret
      exact ⟨ret_int (by simp only [Ag.till, decide_eq_false (show ¬ 0 ≤ ttl by omega), Bool.and_false, Bool.false_eq_true, if_false]), rfl⟩

theorem refUntil_any (now ttl : Int) (w : World) (hb : -9223372036854775808 ≤ ttl ∧ ttl ≤ 9223372036854775807) :
    Calls Try.prog 10 #[.int .i64 now, .int .i64 ttl] w fun e w' => e = .returned (.int .i64 (Ag.till now ttl)) ∧ w' = w := by
  cases h1 : Ag.isT now
  · go_enter Try.func10, Try.ntmps10
    go_wp2_with fail
    refine (refTime_any _ _).mono ?_
    rintro e w1 ⟨rfl, rfl⟩
    rw [h1]
    go_wp2
    go_ret
    exact ⟨ret_int (by simp [Ag.till, h1]), rfl⟩
  · by_cases h2 : 0 ≤ ttl
    · go_enter Try.func10, Try.ntmps10
      go_wp2_with fail
      refine (refTime_any _ _).mono ?_
      rintro e w1 ⟨rfl, rfl⟩
      rw [h1]
      have h1' := h1
      simp only [Ag.isT, decide_eq_true_eq] at h1'
      go_wp2
      all_goals (go_ret; exact ⟨ret_int (by simp only [Ag.till, h1, decide_eq_true h2, Bool.and_self, if_true]; omega), rfl⟩)
    · go_enter Try.func10, Try.ntmps10
      go_wp2_with fail
      refine (refTime_any _ _).mono ?_
      rintro e w1 ⟨rfl, rfl⟩
      rw [h1]
      go_wp2
      go_ret
      exact ⟨ret_int (by simp only [Ag.till, decide_eq_false (show ¬ 0 ≤ ttl by omega), Bool.and_false, Bool.false_eq_true, if_false]), rfl⟩

theorem ageLive_any (now u : Int) (w : World) :
    Calls Try.prog 11 #[.int .i64 now, .int .i64 u] w fun e w' => e = .returned (.bool (Ag.live now u)) ∧ w' = w := by
  cases h1 : Ag.isT now
  · go_enter Try.func11, Try.ntmps11
    go_wp2_with fail
    refine (isTime_any _ _).mono ?_
    rintro e w1 ⟨rfl, rfl⟩
    rw [h1]
    go_wp2
    go_ret
    exact ⟨ret_bool (by simp [Ag.live, h1]), rfl⟩
  · go_enter Try.func11, Try.ntmps11
    go_wp2_with fail
    refine (isTime_any _ _).mono ?_
    rintro e w1 ⟨rfl, rfl⟩
    rw [h1]
    go_wp2
    go_ret
    exact ⟨ret_bool (by simp [Ag.live, h1]), rfl⟩

theorem refAgeLive_any (now u : Int) (w : World) :
    Calls Try.prog 12 #[.int .i64 now, .int .i64 u] w fun e w' => e = .returned (.bool (Ag.live now u)) ∧ w' = w := by
  cases h1 : Ag.isT now
  · go_enter Try.func12, Try.ntmps12
    go_wp2_with fail
    refine (refTime_any _ _).mono ?_
    rintro e w1 ⟨rfl, rfl⟩
    rw [h1]
    go_wp2
    go_ret
    exact ⟨ret_bool (by simp [Ag.live, h1]), rfl⟩
  · go_enter Try.func12, Try.ntmps12
    go_wp2_with fail
    refine (refTime_any _ _).mono ?_
    rintro e w1 ⟨rfl, rfl⟩
    rw [h1]
    go_wp2
    go_ret
    exact ⟨ret_bool (by simp [Ag.live, h1]), rfl⟩

theorem left_any (now u : Int) (w : World) (hb : -9223372036854775808 ≤ u ∧ u ≤ 9223372036854775807) :
    Calls Try.prog 13 #[.int .i64 now, .int .i64 u] w fun e w' => e = .returned (.int .i64 (Ag.left now u)) ∧ w' = w := by
  cases h1 : Ag.live now u
  · go_enter Try.func13, Try.ntmps13
    go_wp2_with fail
    refine (ageLive_any _ _ _).mono ?_
    rintro e w1 ⟨rfl, rfl⟩
    rw [h1]
    go_wp2
    go_ret
    exact ⟨ret_int (by simp [Ag.left, h1]), rfl⟩
  · go_enter Try.func13, Try.ntmps13
    go_wp2_with fail
    refine (ageLive_any _ _ _).mono ?_
    rintro e w1 ⟨rfl, rfl⟩
    rw [h1]
    have h1' := h1
    simp only [Ag.live, Ag.isT, Bool.and_eq_true, decide_eq_true_eq] at h1'
    go_wp2
    all_goals (go_ret; exact ⟨ret_int (by simp only [Ag.left, h1, if_true]; omega), rfl⟩)

theorem refLeft_any (now u : Int) (w : World) (hb : -9223372036854775808 ≤ u ∧ u ≤ 9223372036854775807) :
    Calls Try.prog 14 #[.int .i64 now, .int .i64 u] w fun e w' => e = .returned (.int .i64 (Ag.left now u)) ∧ w' = w := by
  cases h1 : Ag.live now u
  · go_enter Try.func14, Try.ntmps14
    go_wp2_with fail
    refine (refAgeLive_any _ _ _).mono ?_
    rintro e w1 ⟨rfl, rfl⟩
    rw [h1]
    go_wp2
    go_ret
    exact ⟨ret_int (by simp [Ag.left, h1]), rfl⟩
  · go_enter Try.func14, Try.ntmps14
    go_wp2_with fail
    refine (refAgeLive_any _ _ _).mono ?_
    rintro e w1 ⟨rfl, rfl⟩
    rw [h1]
    have h1' := h1
    simp only [Ag.live, Ag.isT, Bool.and_eq_true, decide_eq_true_eq] at h1'
    go_wp2
    all_goals (go_ret; exact ⟨ret_int (by simp only [Ag.left, h1, if_true]; omega), rfl⟩)

theorem due_any (now x : Int) (w : World) :
    Calls Try.prog 7 #[.int .i64 now, .int .i64 x] w fun e w' => e = .returned (.tuple #[.int .i64 (Ag.due now x), .bool (Ag.dueOk now x)]) ∧ w' = w := by
  cases h1 : Ag.isT now
  · go_enter Try.func7, Try.ntmps7
    go_wp2_with fail
    refine (isTime_any _ _).mono ?_
    rintro e w1 ⟨rfl, rfl⟩
    rw [h1]
    go_wp2
    go_ret2
    exact ⟨ret_int_bool (by simp [Ag.due, Ag.dueOk, h1]) (by simp [Ag.dueOk, h1]), rfl⟩
  cases h2 : Ag.isT x
  · go_enter Try.func7, Try.ntmps7
    go_wp2_with fail
    refine (isTime_any _ _).mono ?_
    rintro e w1 ⟨rfl, rfl⟩
    rw [h1]
    go_wp2_with fail
    refine (isTime_any _ _).mono ?_
    rintro e w1 ⟨rfl, rfl⟩
    rw [h2]
    go_wp2
    go_ret2
    exact ⟨ret_int_bool (by simp [Ag.due, Ag.dueOk, h2]) (by simp [Ag.dueOk, h2]), rfl⟩
  have h1' := h1
  have h2' := h2
  simp only [Ag.isT, decide_eq_true_eq] at h1' h2'
  have wr : IntKind.i64.wrap (now + x) = now + x := by rw [IntKind.wrap_i64]; omega
  cases h3 : Ag.isT (now + x)
  · go_enter Try.func7, Try.ntmps7
    go_wp2_with fail
    refine (isTime_any _ _).mono ?_
    rintro e w1 ⟨rfl, rfl⟩
    rw [h1]
    go_wp2_with fail
    refine (isTime_any _ _).mono ?_
    rintro e w1 ⟨rfl, rfl⟩
    rw [h2]
    go_wp2_with fail
    refine (isTime_any _ _).mono ?_
    rintro e w1 ⟨rfl, rfl⟩
    try rw [wr]
    rw [h3]
    go_wp2
    go_ret2
    exact ⟨ret_int_bool (by simp [Ag.due, Ag.dueOk, h3]) (by simp [Ag.dueOk, h3]), rfl⟩
  · go_enter Try.func7, Try.ntmps7
    go_wp2_with fail
    refine (isTime_any _ _).mono ?_
    rintro e w1 ⟨rfl, rfl⟩
    rw [h1]
    go_wp2_with fail
    refine (isTime_any _ _).mono ?_
    rintro e w1 ⟨rfl, rfl⟩
    rw [h2]
    go_wp2_with fail
    refine (isTime_any _ _).mono ?_
    rintro e w1 ⟨rfl, rfl⟩
    try rw [wr]
    rw [h3]
    go_wp2
    go_ret2
    exact ⟨ret_int_bool (by simp [Ag.due, Ag.dueOk, h1, h2, h3]) (by simp [Ag.dueOk, h1, h2, h3]), rfl⟩

theorem refDue_any (now x : Int) (w : World) :
    Calls Try.prog 8 #[.int .i64 now, .int .i64 x] w fun e w' => e = .returned (.tuple #[.int .i64 (Ag.due now x), .bool (Ag.dueOk now x)]) ∧ w' = w := by
  cases h1 : Ag.isT now
  · go_enter Try.func8, Try.ntmps8
    go_wp2_with fail
    refine (refTime_any _ _).mono ?_
    rintro e w1 ⟨rfl, rfl⟩
    rw [h1]
    go_wp2
    go_ret2
    exact ⟨ret_int_bool (by simp [Ag.due, Ag.dueOk, h1]) (by simp [Ag.dueOk, h1]), rfl⟩
  cases h2 : Ag.isT x
  · go_enter Try.func8, Try.ntmps8
    go_wp2_with fail
    refine (refTime_any _ _).mono ?_
    rintro e w1 ⟨rfl, rfl⟩
    rw [h1]
    go_wp2_with fail
    refine (refTime_any _ _).mono ?_
    rintro e w1 ⟨rfl, rfl⟩
    rw [h2]
    go_wp2
    go_ret2
    exact ⟨ret_int_bool (by simp [Ag.due, Ag.dueOk, h2]) (by simp [Ag.dueOk, h2]), rfl⟩
  have h1' := h1
  have h2' := h2
  simp only [Ag.isT, decide_eq_true_eq] at h1' h2'
  have wr : IntKind.i64.wrap (now + x) = now + x := by rw [IntKind.wrap_i64]; omega
  cases h3 : Ag.isT (now + x)
  · go_enter Try.func8, Try.ntmps8
    go_wp2_with fail
    refine (refTime_any _ _).mono ?_
    rintro e w1 ⟨rfl, rfl⟩
    rw [h1]
    go_wp2_with fail
    refine (refTime_any _ _).mono ?_
    rintro e w1 ⟨rfl, rfl⟩
    rw [h2]
    go_wp2_with fail
    refine (refTime_any _ _).mono ?_
    rintro e w1 ⟨rfl, rfl⟩
    try rw [wr]
    rw [h3]
    go_wp2
    go_ret2
    exact ⟨ret_int_bool (by simp [Ag.due, Ag.dueOk, h3]) (by simp [Ag.dueOk, h3]), rfl⟩
  · go_enter Try.func8, Try.ntmps8
    go_wp2_with fail
    refine (refTime_any _ _).mono ?_
    rintro e w1 ⟨rfl, rfl⟩
    rw [h1]
    go_wp2_with fail
    refine (refTime_any _ _).mono ?_
    rintro e w1 ⟨rfl, rfl⟩
    rw [h2]
    go_wp2_with fail
    refine (refTime_any _ _).mono ?_
    rintro e w1 ⟨rfl, rfl⟩
    try rw [wr]
    rw [h3]
    go_wp2
    go_ret2
    exact ⟨ret_int_bool (by simp [Ag.due, Ag.dueOk, h1, h2, h3]) (by simp [Ag.dueOk, h1, h2, h3]), rfl⟩

end Go.Proofs.Ytpdbhnfdcflgdaa
