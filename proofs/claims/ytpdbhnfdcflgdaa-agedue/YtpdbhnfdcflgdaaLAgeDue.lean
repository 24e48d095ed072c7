/- AgeDue answers true, for every input: the walk. -/
import Derived.Test.YtpdbhnfdcflgdaaAgeLive
namespace Go.Proofs.Ytpdbhnfdcflgdaa
open Go.RowKit

theorem Ag.due_yes {a b : Int} (h : Ag.dueOk a b = true) : Ag.due a b = a + b ∧ 0 ≤ a ∧ 0 ≤ b ∧ b ≤ 1099511627776 ∧ a + b ≤ 1099511627776 := by
  refine ⟨by simp [Ag.due, h], ?_⟩
  simp only [Ag.dueOk, Ag.isT, Bool.and_eq_true, decide_eq_true_eq] at h
  omega
theorem Ag.due_no {a b : Int} (h : Ag.dueOk a b = false) : Ag.due a b = 0 := by simp [Ag.due, h]
theorem Ag.due_twice {n a b : Int} (h : Ag.dueOk n a = true) (hb : 0 ≤ b ∧ b ≤ 1099511627776) : Ag.dueOk n (a + b) = Ag.dueOk (n + a) b := by
  simp only [Ag.dueOk, Ag.isT, Bool.and_eq_true, decide_eq_true_eq] at h
  simp only [Ag.dueOk, Ag.isT, ← Bool.decide_and]
  exact decide_eq_decide.2 (by omega)
theorem Ag.due_wait {a b : Int} (h : ¬ (0 ≤ b ∧ b ≤ 1099511627776)) : Ag.dueOk a b = false := by
  simp only [Ag.dueOk, Ag.isT, decide_eq_false h, Bool.and_false, Bool.false_and]

set_option maxHeartbeats 1600000 in
theorem AgeDue_walk (now a b : Int) (w : World) (_ : -9223372036854775808 ≤ now ∧ now ≤ 9223372036854775807) (_ : -9223372036854775808 ≤ a ∧ a ≤ 9223372036854775807) (_ : -9223372036854775808 ≤ b ∧ b ≤ 9223372036854775807) :
    Calls Try.prog 5 #[.int .i64 now, .int .i64 a, .int .i64 b] w fun e w' => e = .returned (.bool true) ∧ Keeps w w' := by
  cases h1 : Ag.dueOk now a
  · have h2 := Ag.due_no h1
    go_enter Try.func5, Try.ntmps5
    go_wp2_with fail
    refine (due_any _ _ _).mono ?_
    rintro e w1 ⟨rfl, rfl⟩
    rw [h1, h2]
    go_wp2_with fail
    refine (live12_any _).mono ?_
    rintro e w1 ⟨rfl, rfl⟩
    go_wp2
    go_ret
    exact ⟨rfl, Keeps.refl _⟩
  obtain ⟨h2, h3, h4, h5, h6⟩ := Ag.due_yes h1
  have wr : IntKind.i64.wrap (now + a - now) = a := by rw [IntKind.wrap_i64]; omega
  by_cases hb : 0 ≤ b
  · by_cases hc : b ≤ 1099511627776
    · have h7 := Ag.due_twice h1 ⟨hb, hc⟩
      have wr2 : IntKind.i64.wrap (a + b) = a + b := by rw [IntKind.wrap_i64]; omega
      cases h8 : Ag.dueOk (now + a) b
      · have h9 := Ag.due_no h8
        rw [h8] at h7
        have h10 := Ag.due_no h7
        go_enter Try.func5, Try.ntmps5
        go_wp2_with fail
        refine (due_any _ _ _).mono ?_
        rintro e w1 ⟨rfl, rfl⟩
        rw [h1, h2]
        go_wp2_with fail
        refine (due_any _ _ _).mono ?_
        rintro e w1 ⟨rfl, rfl⟩
        rw [h8, h9]
        go_wp2_with fail
        refine (due_any _ _ _).mono ?_
        rintro e w1 ⟨rfl, rfl⟩
        try rw [wr2]
        rw [h7, h10]
        go_wp2_with fail
        refine (live12_any _).mono ?_
        rintro e w1 ⟨rfl, rfl⟩
        go_wp2
        go_ret
        exact ⟨rfl, Keeps.refl _⟩
      · obtain ⟨h9, _, _, _, _⟩ := Ag.due_yes h8
        rw [h8] at h7
        obtain ⟨h10, _, _, _, _⟩ := Ag.due_yes h7
        rw [Int.add_assoc] at h9
        go_enter Try.func5, Try.ntmps5
        go_wp2_with fail
        refine (due_any _ _ _).mono ?_
        rintro e w1 ⟨rfl, rfl⟩
        rw [h1, h2]
        go_wp2_with fail
        refine (due_any _ _ _).mono ?_
        rintro e w1 ⟨rfl, rfl⟩
        rw [h8, h9]
        go_wp2_with fail
        refine (due_any _ _ _).mono ?_
        rintro e w1 ⟨rfl, rfl⟩
        try rw [wr2]
        rw [h7, h10]
        go_wp2_with fail
        refine (live12_any _).mono ?_
        rintro e w1 ⟨rfl, rfl⟩
        go_wp2
        go_ret
        exact ⟨rfl, Keeps.refl _⟩
    · have h8 := Ag.due_wait (a := now + a) (b := b) (by omega)
      have h9 := Ag.due_no h8
      go_enter Try.func5, Try.ntmps5
      go_wp2_with fail
      refine (due_any _ _ _).mono ?_
      rintro e w1 ⟨rfl, rfl⟩
      rw [h1, h2]
      go_wp2_with fail
      refine (due_any _ _ _).mono ?_
      rintro e w1 ⟨rfl, rfl⟩
      rw [h8, h9]
      go_wp2_with fail
      refine (live12_any _).mono ?_
      rintro e w1 ⟨rfl, rfl⟩
      go_wp2
      go_ret
      exact ⟨rfl, Keeps.refl _⟩
  · have h8 := Ag.due_wait (a := now + a) (b := b) (by omega)
    have h9 := Ag.due_no h8
    go_enter Try.func5, Try.ntmps5
    go_wp2_with fail
    refine (due_any _ _ _).mono ?_
    rintro e w1 ⟨rfl, rfl⟩
    rw [h1, h2]
    go_wp2_with fail
    refine (due_any _ _ _).mono ?_
    rintro e w1 ⟨rfl, rfl⟩
    rw [h8, h9]
    go_wp2_with fail
    refine (live12_any _).mono ?_
    rintro e w1 ⟨rfl, rfl⟩
    go_wp2
    go_ret
    exact ⟨rfl, Keeps.refl _⟩
end Go.Proofs.Ytpdbhnfdcflgdaa
