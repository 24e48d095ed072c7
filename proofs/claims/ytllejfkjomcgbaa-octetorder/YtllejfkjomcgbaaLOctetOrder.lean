/- OctetOrder answers true, for every input: the walk. -/
import Derived.Test.YtllejfkjomcgbaaOctLive
import Derived.Test.YtllejfkjomcgbaaOctMath2
namespace Go.Proofs.Ytllejfkjomcgbaa
open Go.RowKit

theorem OctetOrder_walk (a b k : Int) (w : World) (_ : -9223372036854775808 ≤ a ∧ a ≤ 9223372036854775807) (_ : -9223372036854775808 ≤ b ∧ b ≤ 9223372036854775807) (_ : -9223372036854775808 ≤ k ∧ k ≤ 9223372036854775807) :
    Calls Try.prog 6 #[.int .i64 a, .int .i64 b, .int .i64 k] w fun e w' => e = .returned (.bool true) ∧ Keeps w w' := by
  have ea := Oct.putS_empty a k
  have eb := Oct.putS_empty b k
  have el := Oct.putS_less a b k
  by_cases ha : Oct.putOk a k = true
  · by_cases hb : Oct.putOk b k = true
    · have el := el ha hb
      rw [ha] at ea
      rw [hb] at eb
      go_enter Try.func6, Try.ntmps6
      go_wp2_with fail
      refine (put_any _ _ _).mono ?_
      rintro e w1 ⟨rfl, k1⟩
      go_wp2_with fail
      refine (put_any _ _ _).mono ?_
      rintro e w2 ⟨rfl, k2⟩
      go_wp2_with fail
      refine (live_any _).mono ?_
      rintro e w3 ⟨rfl, k3⟩
      go_wp2
      go_ret
      exact ⟨rfl, (k1.trans k2).trans k3⟩
    · simp only [Bool.not_eq_true] at hb
      rw [ha] at ea
      rw [hb] at eb
      clear el
      go_enter Try.func6, Try.ntmps6
      go_wp2_with fail
      refine (put_any _ _ _).mono ?_
      rintro e w1 ⟨rfl, k1⟩
      go_wp2_with fail
      refine (put_any _ _ _).mono ?_
      rintro e w2 ⟨rfl, k2⟩
      go_wp2_with fail
      refine (live_any _).mono ?_
      rintro e w3 ⟨rfl, k3⟩
      go_wp2
      go_ret
      exact ⟨rfl, (k1.trans k2).trans k3⟩
  · simp only [Bool.not_eq_true] at ha
    rw [ha] at ea
    clear el eb
    go_enter Try.func6, Try.ntmps6
    go_wp2_with fail
    refine (put_any _ _ _).mono ?_
    rintro e w1 ⟨rfl, k1⟩
    go_wp2_with fail
    refine (put_any _ _ _).mono ?_
    rintro e w2 ⟨rfl, k2⟩
    go_wp2_with fail
    refine (live_any _).mono ?_
    rintro e w3 ⟨rfl, k3⟩
    go_wp2
    go_ret
    exact ⟨rfl, (k1.trans k2).trans k3⟩
end Go.Proofs.Ytllejfkjomcgbaa
