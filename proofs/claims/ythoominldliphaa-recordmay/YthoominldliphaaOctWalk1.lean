/- What octet's calls without a loop answer, for every input. -/
import Derived.Test.YthoominldliphaaRows
import Derived.Test.YthoominldliphaaOctMath
import Derived.Test.YthoominldliphaaAid
namespace Go.Proofs.Ythoominldliphaa
open Go.RowKit

theorem sized_any (k : Int) (w : World) :
    Calls Try.prog 47 #[.int .i64 k] w fun e w' => e = .returned (.bool (Oct.sizedB k)) ∧ w' = w := by
  by_cases h1 : 1 ≤ k
  · by_cases h2 : k ≤ 4
    · go_enter Try.func47, Try.ntmps47
      go_wp2
      go_ret
      exact ⟨by simp [Oct.sizedB, h1, h2], rfl⟩
    · go_enter Try.func47, Try.ntmps47
      go_wp2
      go_ret
      exact ⟨by simp [Oct.sizedB, h1]; omega, rfl⟩
  · go_enter Try.func47, Try.ntmps47
    go_wp2
    go_ret
    exact ⟨by simp [Oct.sizedB]; omega, rfl⟩

theorem holds_any (s : ByteArray) (p k : Int) (w : World) (hs : s.size ≤ maxLen) (hp : p ≤ 9223372036854775807) :
    Calls Try.prog 49 #[.string s, .int .i64 p, .int .i64 k] w fun e w' => e = .returned (.bool (Oct.takeOk s p k)) ∧ w' = w := by
  unfold maxLen at hs
  by_cases h1 : 0 ≤ p
  · by_cases h2 : 0 ≤ k
    · by_cases h3 : k ≤ (s.size : Int) - p
      · go_enter Try.func49, Try.ntmps49
        go_wp2
        go_ret
        exact ⟨by simp [Oct.takeOk, h1, h2, h3], rfl⟩
      · go_enter Try.func49, Try.ntmps49
        go_wp2
        go_ret
        exact ⟨by simp [Oct.takeOk, h1, h2]; omega, rfl⟩
    · go_enter Try.func49, Try.ntmps49
      go_wp2
      go_ret
      exact ⟨by simp [Oct.takeOk]; omega, rfl⟩
  · go_enter Try.func49, Try.ntmps49
    go_wp2
    go_ret
    exact ⟨by simp [Oct.takeOk]; omega, rfl⟩

theorem take_any (s : ByteArray) (p k : Int) (w : World) (hs : s.size ≤ maxLen) (hp : p ≤ 9223372036854775807) :
    Calls Try.prog 38 #[.string s, .int .i64 p, .int .i64 k] w fun e w' => e = .returned (.tuple #[.string (Oct.takeS s p k), .bool (Oct.takeOk s p k)]) ∧ w' = w := by
  by_cases h : 0 ≤ p ∧ 0 ≤ k ∧ k ≤ (s.size : Int) - p
  · have hk : Oct.takeOk s p k = true := by simp [Oct.takeOk, h]
    obtain ⟨h1, h2, h3⟩ := h
    have hs' := hs
    unfold maxLen at hs'
    go_enter Try.func38, Try.ntmps38
    go_wp2_with (go_at_call 49; refine (holds_any _ _ _ _ hs hp).mono ?_; rintro e w' ⟨rfl, rfl⟩)
    go_ret2
    exact ⟨by simp [Oct.takeS, hk], rfl⟩
  · have hk : Oct.takeOk s p k = false := by simp [Oct.takeOk]; omega
    clear h
    go_enter Try.func38, Try.ntmps38
    go_wp2_with (go_at_call 49; refine (holds_any _ _ _ _ hs hp).mono ?_; rintro e w' ⟨rfl, rfl⟩)
    go_ret2
    exact ⟨by simp [Oct.takeS, hk], rfl⟩

theorem reftake_any (s : ByteArray) (p k : Int) (w : World) (hs : s.size ≤ maxLen) (hp : p ≤ 9223372036854775807) :
    Calls Try.prog 25 #[.string s, .int .i64 p, .int .i64 k] w fun e w' => e = .returned (.tuple #[.string (Oct.takeS s p k), .bool (Oct.takeOk s p k)]) ∧ w' = w := by
  have hs' := hs
  unfold maxLen at hs'
  by_cases h1 : p < 0
  · have hk : Oct.takeOk s p k = false := by simp [Oct.takeOk]; omega
    go_enter Try.func25, Try.ntmps25
    go_wp2
    go_ret2
    exact ⟨by simp [Oct.takeS, hk], rfl⟩
  · by_cases h2 : k < 0
    · have hk : Oct.takeOk s p k = false := by simp [Oct.takeOk]; omega
      go_enter Try.func25, Try.ntmps25
      go_wp2
      go_ret2
      exact ⟨by simp [Oct.takeS, hk], rfl⟩
    · by_cases h3 : (s.size : Int) < p
      · have hk : Oct.takeOk s p k = false := by simp [Oct.takeOk]; omega
        go_enter Try.func25, Try.ntmps25
        go_wp2
        go_ret2
        exact ⟨by simp [Oct.takeS, hk], rfl⟩
      · by_cases h4 : (s.size : Int) - p < k
        · have hk : Oct.takeOk s p k = false := by simp [Oct.takeOk]; omega
          go_enter Try.func25, Try.ntmps25
          go_wp2
          go_ret2
          exact ⟨by simp [Oct.takeS, hk], rfl⟩
        · have hk : Oct.takeOk s p k = true := by simp [Oct.takeOk]; omega
          go_enter Try.func25, Try.ntmps25
          go_wp2
          go_ret2
          exact ⟨by simp [Oct.takeS, hk], rfl⟩
end Go.Proofs.Ythoominldliphaa
