/- How much is believed, as plain numbers; what package rank, and the document's answer for it, tell. The condition: the table of ranks reads as the program's text lays it. -/
import Derived.Test.YtekbcpnclckakaaDoorBase
import Derived.RegionTactic
import Derived.BigRegion
namespace Go.Proofs.YtekbcpnclckakaaDoor.Rk

def rank (s : Int) (aa : Bool) : Int := if s = 0 then (if aa then 5 else 3) else if s = 1 then (if aa then 4 else 1) else if s = 2 then (if aa then 2 else 1) else 0
def isR (r : Int) : Bool := decide (1 ≤ r ∧ r ≤ 5)
def over (old : Int) (live : Bool) (now : Int) : Bool := isR now && (!live || decide (old ≤ now))
def told (r : Int) : Bool := decide (3 ≤ r ∧ r ≤ 5)
end Go.Proofs.YtekbcpnclckakaaDoor.Rk

namespace Go.Proofs.YtekbcpnclckakaaDoor
open Go.RowKit

def tabR : List Int := [3, 5, 1, 4, 1, 2]
/-- The table of ranks reads as the program's text lays it. -/
def TabR (w : World) : Prop := ∀ i (h : i < tabR.length), w.cell? ⟨0, i, none⟩ = some (.int .i64 tabR[i])
theorem TabR.keeps {w w' : World} (h : TabR w) (k : Keeps w w') : TabR w' := fun i hi => (Below.cell k (World.block_lt_of_cell? w _ (h i hi))).trans (h i hi)
theorem TabR.at {w : World} (T : TabR w) (i : Nat) (x : Int) (h : tabR[i]? = some x) : w.cell? ⟨0, i, none⟩ = some (.int .i64 x) := by
  have hi : i < tabR.length := by
    rcases Nat.lt_or_ge i tabR.length with h1 | h1
    · exact h1
    · rw [List.getElem?_eq_none h1] at h
      cases h
  rw [T i hi]
  rw [List.getElem?_eq_getElem hi] at h
  rw [Option.some.inj h]

set_option maxHeartbeats 1600000 in
theorem rank_any (s : Int) (aa : Bool) (w : World) (T : TabR w) :
    Calls Tryd.prog 6 #[.int .i64 s, .bool aa] w fun e w' => e = .returned (.int .i64 (Rk.rank s aa)) ∧ Keeps w w' := by
  by_cases h0 : s < 0
  · have er : Rk.rank s aa = 0 := by unfold Rk.rank; rw [if_neg (by omega), if_neg (by omega), if_neg (by omega)]
    rw [er]
    clear T
    go_enter Tryd.func6, Tryd.ntmps6
    go_wp2
    go_ret
    exact ⟨rfl, Keeps.refl _⟩
  by_cases h3 : 3 ≤ s
  · have er : Rk.rank s aa = 0 := by unfold Rk.rank; rw [if_neg (by omega), if_neg (by omega), if_neg (by omega)]
    rw [er]
    clear T
    go_enter Tryd.func6, Tryd.ntmps6
    go_wp2
    go_ret
    exact ⟨rfl, Keeps.refl _⟩
  obtain hs : s = 0 ∨ s = 1 ∨ s = 2 := by omega
  clear h0 h3
  have c0 := T.at 0 3 rfl
  have c1 := T.at 1 5 rfl
  have c2 := T.at 2 1 rfl
  have c3 := T.at 3 4 rfl
  have c4 := T.at 4 1 rfl
  have c5 := T.at 5 2 rfl
  clear T
  rcases hs with rfl | rfl | rfl <;> cases aa
  · go_enter Tryd.func6, Tryd.ntmps6
    go_wp2
    go_ret
    exact ⟨rfl, Keeps.refl _⟩
  · go_enter Tryd.func6, Tryd.ntmps6
    go_wp2
    go_ret
    exact ⟨rfl, Keeps.refl _⟩
  · go_enter Tryd.func6, Tryd.ntmps6
    go_wp2
    go_ret
    exact ⟨rfl, Keeps.refl _⟩
  · go_enter Tryd.func6, Tryd.ntmps6
    go_wp2
    go_ret
    exact ⟨rfl, Keeps.refl _⟩
  · go_enter Tryd.func6, Tryd.ntmps6
    go_wp2
    go_ret
    exact ⟨rfl, Keeps.refl _⟩
  · go_enter Tryd.func6, Tryd.ntmps6
    go_wp2
    go_ret
    exact ⟨rfl, Keeps.refl _⟩

theorem refRank_any (s : Int) (aa : Bool) (w : World) :
    Calls Tryd.prog 7 #[.int .i64 s, .bool aa] w fun e w' => e = .returned (.int .i64 (Rk.rank s aa)) ∧ w' = w := by
  by_cases h0 : s = 0
  · subst h0
    cases aa
    · go_enter Tryd.func7, Tryd.ntmps7
      go_wp2
      go_ret
      exact ⟨rfl, rfl⟩
    · go_enter Tryd.func7, Tryd.ntmps7
      go_wp2
      go_ret
      exact ⟨rfl, rfl⟩
  by_cases h1 : s = 1
  · subst h1
    cases aa
    · go_enter Tryd.func7, Tryd.ntmps7
      go_wp2
      go_ret
      exact ⟨rfl, rfl⟩
    · go_enter Tryd.func7, Tryd.ntmps7
      go_wp2
      go_ret
      exact ⟨rfl, rfl⟩
  by_cases h2 : s = 2
  · subst h2
    cases aa
    · go_enter Tryd.func7, Tryd.ntmps7
      go_wp2
      go_ret
      exact ⟨rfl, rfl⟩
    · go_enter Tryd.func7, Tryd.ntmps7
      go_wp2
      go_ret
      exact ⟨rfl, rfl⟩
  have er : Rk.rank s aa = 0 := by unfold Rk.rank; rw [if_neg h0, if_neg h1, if_neg h2]
  rw [er]
  have b0 : (s == 0) = false := beq_eq_false_iff_ne.2 h0
  have b1 : (s == 1) = false := beq_eq_false_iff_ne.2 h1
  have b2 : (s == 2) = false := beq_eq_false_iff_ne.2 h2
  cases aa
  · go_enter Tryd.func7, Tryd.ntmps7
    go_wp2
    go_ret
    exact ⟨rfl, rfl⟩
  · go_enter Tryd.func7, Tryd.ntmps7
    go_wp2
    go_ret
    exact ⟨rfl, rfl⟩

theorem isRank_any (r : Int) (w : World) :
    Calls Tryd.prog 13 #[.int .i64 r] w fun e w' => e = .returned (.bool (Rk.isR r)) ∧ w' = w := by
  by_cases h1 : 1 ≤ r
  · by_cases h2 : r ≤ 5
    · go_enter Tryd.func13, Tryd.ntmps13
      go_wp2
      go_ret
      exact ⟨ret_bool (by simp [Rk.isR]; omega), rfl⟩
    · go_enter Tryd.func13, Tryd.ntmps13
      go_wp2
      go_ret
      exact ⟨ret_bool (by simp [Rk.isR]; omega), rfl⟩
  · go_enter Tryd.func13, Tryd.ntmps13
    go_wp2
    go_ret
    exact ⟨ret_bool (by simp [Rk.isR]; omega), rfl⟩

theorem refTold_any (r : Int) (w : World) :
    Calls Tryd.prog 11 #[.int .i64 r] w fun e w' => e = .returned (.bool (Rk.told r)) ∧ w' = w := by
  by_cases h1 : 3 ≤ r
  · by_cases h2 : r ≤ 5
    · go_enter Tryd.func11, Tryd.ntmps11
      go_wp2
      go_ret
      exact ⟨ret_bool (by simp [Rk.told]; omega), rfl⟩
    · go_enter Tryd.func11, Tryd.ntmps11
      go_wp2
      go_ret
      exact ⟨ret_bool (by simp [Rk.told]; omega), rfl⟩
  · go_enter Tryd.func11, Tryd.ntmps11
    go_wp2
    go_ret
    exact ⟨ret_bool (by simp [Rk.told]; omega), rfl⟩

theorem told_any (r : Int) (w : World) :
    Calls Tryd.prog 10 #[.int .i64 r] w fun e w' => e = .returned (.bool (Rk.told r)) ∧ w' = w := by
  cases h : Rk.isR r
  · have h' := h
    simp only [Rk.isR, decide_eq_false_iff_not] at h'
    have e1 : Rk.told r = false := decide_eq_false (by omega)
    rw [e1]
    go_enter Tryd.func10, Tryd.ntmps10
    go_wp2_with fail
    refine (isRank_any _ _).mono ?_
    rintro e w1 ⟨rfl, rfl⟩
    rw [h]
    go_wp2
    go_ret
    exact ⟨rfl, rfl⟩
  · have h' := h
    simp only [Rk.isR, decide_eq_true_eq] at h'
    have e1 : Rk.told r = decide (3 ≤ r) := decide_eq_decide.2 (by omega)
    rw [e1]
    go_enter Tryd.func10, Tryd.ntmps10
    go_wp2_with fail
    refine (isRank_any _ _).mono ?_
    rintro e w1 ⟨rfl, rfl⟩
    rw [h]
    go_wp2
    go_ret
    exact ⟨rfl, rfl⟩

theorem over_any (old now : Int) (live : Bool) (w : World) :
    Calls Tryd.prog 8 #[.int .i64 old, .bool live, .int .i64 now] w fun e w' => e = .returned (.bool (Rk.over old live now)) ∧ w' = w := by
  cases h : Rk.isR now
  · have e1 : Rk.over old live now = false := by rw [Rk.over, h, Bool.false_and]
    rw [e1]
    go_enter Tryd.func8, Tryd.ntmps8
    go_wp2_with fail
    refine (isRank_any _ _).mono ?_
    rintro e w1 ⟨rfl, rfl⟩
    rw [h]
    go_wp2
    go_ret
    exact ⟨rfl, rfl⟩
  cases live
  · have e1 : Rk.over old false now = true := by simp [Rk.over, h]
    rw [e1]
    go_enter Tryd.func8, Tryd.ntmps8
    go_wp2_with fail
    refine (isRank_any _ _).mono ?_
    rintro e w1 ⟨rfl, rfl⟩
    rw [h]
    go_wp2
    go_ret
    exact ⟨rfl, rfl⟩
  · have e1 : Rk.over old true now = decide (old ≤ now) := by simp [Rk.over, h]
    rw [e1]
    go_enter Tryd.func8, Tryd.ntmps8
    go_wp2_with fail
    refine (isRank_any _ _).mono ?_
    rintro e w1 ⟨rfl, rfl⟩
    rw [h]
    go_wp2
    go_ret
    exact ⟨rfl, rfl⟩

theorem refOver_any (old now : Int) (live : Bool) (w : World) :
    Calls Tryd.prog 9 #[.int .i64 old, .bool live, .int .i64 now] w fun e w' => e = .returned (.bool (Rk.over old live now)) ∧ w' = w := by
  by_cases h1 : now < 1
  · have e1 : Rk.over old live now = false := by rw [Rk.over, Rk.isR, decide_eq_false (by omega), Bool.false_and]
    rw [e1]
    go_enter Tryd.func9, Tryd.ntmps9
    go_wp2
    go_ret
    exact ⟨rfl, rfl⟩
  by_cases h2 : 5 < now
  · have e1 : Rk.over old live now = false := by rw [Rk.over, Rk.isR, decide_eq_false (by omega), Bool.false_and]
    rw [e1]
    go_enter Tryd.func9, Tryd.ntmps9
    go_wp2
    go_ret
    exact ⟨rfl, rfl⟩
  have h : Rk.isR now = true := decide_eq_true (by omega)
  cases live
  · have e1 : Rk.over old false now = true := by simp [Rk.over, h]
    rw [e1]
    clear h
    go_enter Tryd.func9, Tryd.ntmps9
    go_wp2
    go_ret
    exact ⟨rfl, rfl⟩
  · have e1 : Rk.over old true now = decide (old ≤ now) := by simp [Rk.over, h]
    rw [e1]
    clear h
    go_enter Tryd.func9, Tryd.ntmps9
    go_wp2
    go_ret
    exact ⟨rfl, rfl⟩
end Go.Proofs.YtekbcpnclckakaaDoor
