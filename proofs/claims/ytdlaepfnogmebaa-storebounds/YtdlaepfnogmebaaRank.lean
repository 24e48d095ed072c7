/- How much is believed, as plain numbers; what package rank, and the document's answer for it, tell. The condition: the table of ranks reads as the program's text lays it. -/
import Derived.Test.YtdlaepfnogmebaaBase
import Derived.RegionTactic
import Derived.BigRegion
namespace Go.Proofs.Ytdlaepfnogmebaa.Rk

def rank (s : Int) (aa : Bool) : Int := if s = 0 then (if aa then 5 else 3) else if s = 1 then (if aa then 4 else 1) else if s = 2 then (if aa then 2 else 1) else 0
def isR (r : Int) : Bool := decide (1 ≤ r ∧ r ≤ 5)
def over (old : Int) (live : Bool) (now : Int) : Bool := isR now && (!live || decide (old ≤ now))
def told (r : Int) : Bool := decide (3 ≤ r ∧ r ≤ 5)
end Go.Proofs.Ytdlaepfnogmebaa.Rk

namespace Go.Proofs.Ytdlaepfnogmebaa
open Go.RowKit

def tabR : List Int := [3, 5, 1, 4, 1, 2]
theorem isRank_any (r : Int) (w : World) :
    Calls Try.prog 132 #[.int .i64 r] w fun e w' => e = .returned (.bool (Rk.isR r)) ∧ w' = w := by
  by_cases h1 : 1 ≤ r
  · by_cases h2 : r ≤ 5
    · go_enter Try.func132, Try.ntmps132
      go_wp2
      go_ret
      exact ⟨ret_bool (by simp [Rk.isR]; omega), rfl⟩
    · go_enter Try.func132, Try.ntmps132
      go_wp2
      go_ret
      exact ⟨ret_bool (by simp [Rk.isR]; omega), rfl⟩
  · go_enter Try.func132, Try.ntmps132
    go_wp2
    go_ret
    exact ⟨ret_bool (by simp [Rk.isR]; omega), rfl⟩

theorem told_any (r : Int) (w : World) :
    Calls Try.prog 125 #[.int .i64 r] w fun e w' => e = .returned (.bool (Rk.told r)) ∧ w' = w := by
  cases h : Rk.isR r
  · have h' := h
    simp only [Rk.isR, decide_eq_false_iff_not] at h'
    have e1 : Rk.told r = false := decide_eq_false (by omega)
    rw [e1]
    go_enter Try.func125, Try.ntmps125
    go_wp2_with fail
    refine (isRank_any _ _).mono ?_
    rintro e w1 ⟨rfl, rfl⟩
    rw [h]
    go_wp2
    go_ret
    exact ⟨rfl, rfl⟩
  · have h' := h
    simp only [Rk.isR, decide_eq_true_eq] at h'
    have e1 : Rk.told r = decide (3 ≤ r) := decide_eq_decide.2 (by omega)
    rw [e1]
    go_enter Try.func125, Try.ntmps125
    go_wp2_with fail
    refine (isRank_any _ _).mono ?_
    rintro e w1 ⟨rfl, rfl⟩
    rw [h]
    go_wp2
    go_ret
    exact ⟨rfl, rfl⟩

theorem over_any (old now : Int) (live : Bool) (w : World) :
    Calls Try.prog 113 #[.int .i64 old, .bool live, .int .i64 now] w fun e w' => e = .returned (.bool (Rk.over old live now)) ∧ w' = w := by
  cases h : Rk.isR now
  · have e1 : Rk.over old live now = false := by rw [Rk.over, h, Bool.false_and]
    rw [e1]
    go_enter Try.func113, Try.ntmps113
    go_wp2_with fail
    refine (isRank_any _ _).mono ?_
    rintro e w1 ⟨rfl, rfl⟩
    rw [h]
    go_wp2
    go_ret
    exact ⟨rfl, rfl⟩
  cases live
  · have e1 : Rk.over old false now = true := by simp [Rk.over, h]
    rw [e1]
    go_enter Try.func113, Try.ntmps113
    go_wp2_with fail
    refine (isRank_any _ _).mono ?_
    rintro e w1 ⟨rfl, rfl⟩
    rw [h]
    go_wp2
    go_ret
    exact ⟨rfl, rfl⟩
  · have e1 : Rk.over old true now = decide (old ≤ now) := by simp [Rk.over, h]
    rw [e1]
    go_enter Try.func113, Try.ntmps113
    go_wp2_with fail
    refine (isRank_any _ _).mono ?_
    rintro e w1 ⟨rfl, rfl⟩
    rw [h]
    go_wp2
    go_ret
    exact ⟨rfl, rfl⟩

theorem refOver_any (old now : Int) (live : Bool) (w : World) :
    Calls Try.prog 66 #[.int .i64 old, .bool live, .int .i64 now] w fun e w' => e = .returned (.bool (Rk.over old live now)) ∧ w' = w := by
  by_cases h1 : now < 1
  · have e1 : Rk.over old live now = false := by rw [Rk.over, Rk.isR, decide_eq_false (by omega), Bool.false_and]
    rw [e1]
    go_enter Try.func66, Try.ntmps66
    go_wp2
    go_ret
    exact ⟨rfl, rfl⟩
  by_cases h2 : 5 < now
  · have e1 : Rk.over old live now = false := by rw [Rk.over, Rk.isR, decide_eq_false (by omega), Bool.false_and]
    rw [e1]
    go_enter Try.func66, Try.ntmps66
    go_wp2
    go_ret
    exact ⟨rfl, rfl⟩
  have h : Rk.isR now = true := decide_eq_true (by omega)
  cases live
  · have e1 : Rk.over old false now = true := by simp [Rk.over, h]
    rw [e1]
    clear h
    go_enter Try.func66, Try.ntmps66
    go_wp2
    go_ret
    exact ⟨rfl, rfl⟩
  · have e1 : Rk.over old true now = decide (old ≤ now) := by simp [Rk.over, h]
    rw [e1]
    clear h
    go_enter Try.func66, Try.ntmps66
    go_wp2
    go_ret
    exact ⟨rfl, rfl⟩
end Go.Proofs.Ytdlaepfnogmebaa
