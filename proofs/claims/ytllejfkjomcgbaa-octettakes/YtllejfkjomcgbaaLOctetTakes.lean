/- OctetTakes answers true, for every input: the walk. -/
import Derived.Test.YtllejfkjomcgbaaOctLive
import Derived.Test.YtllejfkjomcgbaaOctMath2
namespace Go.Proofs.Ytllejfkjomcgbaa
open Go.RowKit

set_option maxHeartbeats 800000 in
theorem OctetTakes_walk (s : ByteArray) (p a : Int) (w : World) (hs : s.size ≤ maxLen) (_ : -9223372036854775808 ≤ p ∧ p ≤ 9223372036854775807) (_ : -9223372036854775808 ≤ a ∧ a ≤ 9223372036854775807) :
    Calls Try.prog 7 #[.string s, .int .i64 p, .int .i64 a] w fun e w' => e = .returned (.bool true) ∧ Keeps w w' := by
  have hs' := hs
  unfold maxLen at hs'
  by_cases hl : 70000 < (s.size : Int)
  · go_enter Try.func7, Try.ntmps7
    go_wp2_with (go_at_call 9; refine (live_any _).mono ?_; rintro e w3 ⟨rfl, k3⟩)
    go_ret
    exact ⟨rfl, by assumption⟩
  by_cases h1 : p < 0
  · go_enter Try.func7, Try.ntmps7
    go_wp2_with (go_at_call 9; refine (live_any _).mono ?_; rintro e w3 ⟨rfl, k3⟩)
    go_ret
    exact ⟨rfl, by assumption⟩
  by_cases h2 : a < 0
  · go_enter Try.func7, Try.ntmps7
    go_wp2_with (go_at_call 9; refine (live_any _).mono ?_; rintro e w3 ⟨rfl, k3⟩)
    go_ret
    exact ⟨rfl, by assumption⟩
  by_cases h3 : 100000 < p
  · go_enter Try.func7, Try.ntmps7
    go_wp2_with (go_at_call 9; refine (live_any _).mono ?_; rintro e w3 ⟨rfl, k3⟩)
    go_ret
    exact ⟨rfl, by assumption⟩
  by_cases h4 : 100000 < a
  · go_enter Try.func7, Try.ntmps7
    go_wp2_with (go_at_call 9; refine (live_any _).mono ?_; rintro e w3 ⟨rfl, k3⟩)
    go_ret
    exact ⟨rfl, by assumption⟩
  have tt := Oct.take_two s p a 2 (by omega) (by omega) (by omega)
  have gf := Oct.get_four s p (by omega)
  have b2 := Oct.getN_bound s p 2
  have b3 := Oct.getN_bound s (p + 2) 2
  have z1 := Oct.takeS_size s p a
  have z2 := Oct.takeS_size s (p + a) 2
  obtain ⟨t1, t2⟩ := tt
  obtain ⟨g1, g2⟩ := gf
  have G1 := hide g1
  have G2 := hide g2
  have T1 := hide t1
  have T2 := hide t2
  have Z1 := hide z1
  have Z2 := hide z2
  have B := hide b2
  have C := hide b3
  clear t1 t2 g1 g2 z1 z2 b2 b3
  go_enter Try.func7, Try.ntmps7
  go_wp2_with fail
  refine (take_any _ _ _ _ hs (by omega)).mono ?_
  rintro e w2 ⟨rfl, hw2⟩
  subst hw2
  go_wp2_with fail
  refine (take_any _ _ _ _ hs (by omega)).mono ?_
  rintro e w2 ⟨rfl, hw2⟩
  subst hw2
  go_wp2_with fail
  refine (take_any _ _ _ _ hs (by omega)).mono ?_
  rintro e w2 ⟨rfl, hw2⟩
  subst hw2
  have t1 := T1.out
  have t2 := T2.out
  have z1 := Z1.out
  have z2 := Z2.out
  clear T1 T2 Z1 Z2
  generalize Oct.takeOk s p a = x at *
  generalize Oct.takeOk s (p + a) 2 = y at *
  generalize Oct.takeOk s p (a + 2) = z at *
  generalize Oct.takeS s p a = X at *
  generalize Oct.takeS s (p + a) 2 = Y at *
  generalize Oct.takeS s p (a + 2) = Z at *
  subst t1
  have hX : x = true → (X.size : Int) ≤ 100000 := fun h => by have := z1 h; omega
  have hY : y = true → (Y.size : Int) ≤ 2 := fun h => by have := z2 h; omega
  clear z1 z2
  cases x <;> cases y <;> simp only [Bool.and_true, Bool.and_false, forall_const, Bool.false_eq_true, false_implies] at t2 hX hY
  all_goals (try subst t2)
  all_goals go_wp2_with fail
  all_goals (refine (get_any _ _ _ _ hs (by omega)).mono ?_; rintro e w2 ⟨rfl, hw2⟩; subst hw2; go_wp2_with fail)
  all_goals (refine (get_any _ _ _ _ hs (by omega)).mono ?_; rintro e w2 ⟨rfl, hw2⟩; subst hw2; go_wp2_with fail)
  all_goals (refine (get_any _ _ _ _ hs (by omega)).mono ?_; rintro e w2 ⟨rfl, hw2⟩; subst hw2)
  all_goals
    have g1 := G1.out
    have g2 := G2.out
    have b2 := B.out
    have b3 := C.out
    clear G1 G2 B C
    generalize Oct.getOk s p 4 = u at *
    generalize Oct.getOk s p 2 = v at *
    generalize Oct.getOk s (p + 2) 2 = q at *
    generalize Oct.getN s p 4 = U at *
    generalize Oct.getN s p 2 = V at *
    generalize Oct.getN s (p + 2) 2 = R at *
    subst g1
    cases v <;> cases q <;> simp only [Bool.and_true, Bool.and_false, forall_const, Bool.false_eq_true, false_implies] at g2
    all_goals (try subst g2)
    all_goals go_wp2_with fail
    all_goals (refine (live_any _).mono ?_; rintro e w4 ⟨rfl, k4⟩; go_wp2; go_ret; exact ⟨rfl, k4⟩)
end Go.Proofs.Ytllejfkjomcgbaa
