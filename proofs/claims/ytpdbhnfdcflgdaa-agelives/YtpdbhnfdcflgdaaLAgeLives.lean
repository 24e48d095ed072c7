/- AgeLives answers true, for every input: the walk. -/
import Derived.Test.YtpdbhnfdcflgdaaAgeLive
namespace Go.Proofs.Ytpdbhnfdcflgdaa
open Go.RowKit

set_option maxHeartbeats 3200000 in
theorem AgeLives_walk (now ttl more : Int) (w : World) (_ : -9223372036854775808 ≤ now ∧ now ≤ 9223372036854775807) (ht : -9223372036854775808 ≤ ttl ∧ ttl ≤ 9223372036854775807) (_ : -9223372036854775808 ≤ more ∧ more ≤ 9223372036854775807) :
    Calls Try.prog 6 #[.int .i64 now, .int .i64 ttl, .int .i64 more] w fun e w' => e = .returned (.bool true) ∧ Keeps w w' := by
  by_cases c1 : ¬ 0 ≤ now
  · go_enter Try.func6, Try.ntmps6
    go_wp2_with fail
    refine (live12_any _).mono ?_
    rintro e w1 ⟨rfl, rfl⟩
    go_wp2
    go_ret
    exact ⟨rfl, Keeps.refl _⟩
  by_cases c2 : ¬ 0 ≤ ttl
  · go_enter Try.func6, Try.ntmps6
    go_wp2_with fail
    refine (live12_any _).mono ?_
    rintro e w1 ⟨rfl, rfl⟩
    go_wp2
    go_ret
    exact ⟨rfl, Keeps.refl _⟩
  by_cases c3 : ¬ 0 ≤ more
  · go_enter Try.func6, Try.ntmps6
    go_wp2_with fail
    refine (live12_any _).mono ?_
    rintro e w1 ⟨rfl, rfl⟩
    go_wp2
    go_ret
    exact ⟨rfl, Keeps.refl _⟩
  by_cases c4 : ¬ now ≤ 549755813888
  · go_enter Try.func6, Try.ntmps6
    go_wp2_with fail
    refine (live12_any _).mono ?_
    rintro e w1 ⟨rfl, rfl⟩
    go_wp2
    go_ret
    exact ⟨rfl, Keeps.refl _⟩
  by_cases c5 : ¬ more ≤ 549755813888
  · go_enter Try.func6, Try.ntmps6
    go_wp2_with fail
    refine (live12_any _).mono ?_
    rintro e w1 ⟨rfl, rfl⟩
    go_wp2
    go_ret
    exact ⟨rfl, Keeps.refl _⟩
  have ea : Ag.till now ttl = now + min ttl 604800 := by
    have : Ag.isT now = true := decide_eq_true (by omega)
    simp only [Ag.till, this, decide_eq_true (show 0 ≤ ttl by omega), Bool.and_self, if_true]
  have eb : Ag.till (now + more) ttl = now + more + min ttl 604800 := by
    have : Ag.isT (now + more) = true := decide_eq_true (by omega)
    simp only [Ag.till, this, decide_eq_true (show 0 ≤ ttl by omega), Bool.and_self, if_true]
  obtain ⟨m, hm⟩ : ∃ m, m = min ttl 604800 := ⟨_, rfl⟩
  rw [← hm] at ea eb
  have hm0 : 0 ≤ m := by omega
  have hm1 : m ≤ 604800 := by omega
  clear hm
  have la : Ag.left now (now + m) = m := by
    have : Ag.live now (now + m) = decide (0 < m) := by
      simp only [Ag.live, Ag.isT, decide_eq_true (show 0 ≤ now ∧ now ≤ 1099511627776 by omega), Bool.true_and]
      exact decide_eq_decide.2 (by omega)
    unfold Ag.left
    rw [this]
    by_cases c : 0 < m
    · rw [decide_eq_true c, if_pos rfl]; omega
    · rw [decide_eq_false c]; simp only [Bool.false_eq_true, if_false]; omega
  have lb : Ag.left (now + more) (now + more + m) = m := by
    have : Ag.live (now + more) (now + more + m) = decide (0 < m) := by
      simp only [Ag.live, Ag.isT, decide_eq_true (show 0 ≤ now + more ∧ now + more ≤ 1099511627776 by omega), Bool.true_and]
      exact decide_eq_decide.2 (by omega)
    unfold Ag.left
    rw [this]
    by_cases c : 0 < m
    · rw [decide_eq_true c, if_pos rfl]; omega
    · rw [decide_eq_false c]; simp only [Bool.false_eq_true, if_false]; omega
  have va : Ag.live (now + more) (now + m) = decide (more < m) := by
    simp only [Ag.live, Ag.isT, decide_eq_true (show 0 ≤ now + more ∧ now + more ≤ 1099511627776 by omega), Bool.true_and]
    exact decide_eq_decide.2 (by omega)
  have vb : Ag.live (now + more) (now + more + m) = decide (0 < m) := by
    simp only [Ag.live, Ag.isT, decide_eq_true (show 0 ≤ now + more ∧ now + more ≤ 1099511627776 by omega), Bool.true_and]
    exact decide_eq_decide.2 (by omega)
  have wr : IntKind.i64.wrap (now + more) = now + more := by rw [IntKind.wrap_i64]; omega
  have wr2 : IntKind.i64.wrap (now + more + m - (now + m)) = more := by rw [IntKind.wrap_i64]; omega
  have wr3 : IntKind.i64.wrap (now + 604800) = now + 604800 := by rw [IntKind.wrap_i64]; omega
  simp only [Int.not_lt, Int.not_le] at c1 c2 c3 c4 c5
  by_cases c6 : more < m
  · rw [decide_eq_true c6] at va
    rw [decide_eq_true (show 0 < m by omega)] at vb
    go_enter Try.func6, Try.ntmps6
    go_wp2_with fail
    refine (until_any _ _ _ ht).mono ?_
    rintro e w1 ⟨rfl, rfl⟩
    rw [ea]
    go_wp2_with fail
    refine (until_any _ _ _ ht).mono ?_
    rintro e w1 ⟨rfl, rfl⟩
    try rw [wr]
    rw [eb]
    go_wp2_with fail
    refine (ageLive_any _ _ _).mono ?_
    rintro e w1 ⟨rfl, rfl⟩
    try rw [wr]
    rw [va]
    go_wp2_with fail
    refine (ageLive_any _ _ _).mono ?_
    rintro e w1 ⟨rfl, rfl⟩
    try rw [wr]
    rw [vb]
    go_wp2_with fail
    refine (left_any _ _ _ (by omega)).mono ?_
    rintro e w1 ⟨rfl, rfl⟩
    rw [la]
    go_wp2_with fail
    refine (left_any _ _ _ (by omega)).mono ?_
    rintro e w1 ⟨rfl, rfl⟩
    try rw [wr]
    rw [lb]
    go_wp2_with fail
    refine (live12_any _).mono ?_
    rintro e w1 ⟨rfl, rfl⟩
    go_wp2
    go_ret
    exact ⟨rfl, Keeps.refl _⟩
  · rw [decide_eq_false c6] at va
    go_enter Try.func6, Try.ntmps6
    go_wp2_with fail
    refine (until_any _ _ _ ht).mono ?_
    rintro e w1 ⟨rfl, rfl⟩
    rw [ea]
    go_wp2_with fail
    refine (until_any _ _ _ ht).mono ?_
    rintro e w1 ⟨rfl, rfl⟩
    try rw [wr]
    rw [eb]
    go_wp2_with fail
    refine (ageLive_any _ _ _).mono ?_
    rintro e w1 ⟨rfl, rfl⟩
    try rw [wr]
    rw [va]
    go_wp2_with fail
    refine (left_any _ _ _ (by omega)).mono ?_
    rintro e w1 ⟨rfl, rfl⟩
    rw [la]
    go_wp2_with fail
    refine (left_any _ _ _ (by omega)).mono ?_
    rintro e w1 ⟨rfl, rfl⟩
    try rw [wr]
    rw [lb]
    go_wp2_with fail
    refine (live12_any _).mono ?_
    rintro e w1 ⟨rfl, rfl⟩
    go_wp2
    go_ret
    exact ⟨rfl, Keeps.refl _⟩
end Go.Proofs.Ytpdbhnfdcflgdaa
