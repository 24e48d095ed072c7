/- OctetBack answers true, for every input: the walk. -/
import Derived.Test.YtllejfkjomcgbaaOctLive
import Derived.Test.YtllejfkjomcgbaaOctMath2
namespace Go.Proofs.Ytllejfkjomcgbaa
open Go.RowKit

set_option maxHeartbeats 800000 in
theorem OctetBack_walk (n k : Int) (s : ByteArray) (w : World) (hn0 : -9223372036854775808 ≤ n ∧ n ≤ 9223372036854775807) (_ : -9223372036854775808 ≤ k ∧ k ≤ 9223372036854775807) (hs : s.size ≤ maxLen) :
    Calls Try.prog 4 #[.int .i64 n, .int .i64 k, .string s] w fun e w' => e = .returned (.bool true) ∧ Keeps w w' := by
  have hn := hn0.2
  clear hn0
  have hs' := hs
  unfold maxLen at hs'
  by_cases hl : 70000 < (s.size : Int)
  · go_enter Try.func4, Try.ntmps4
    go_wp2_with fail
    refine (live_any _).mono ?_
    rintro e w3 ⟨rfl, k3⟩
    go_wp2
    go_ret
    exact ⟨rfl, k3⟩
  · have ea := Oct.putS_empty n k
    have gp := Oct.get_put n k s
    have pg := Oct.put_get s n k
    by_cases ha : Oct.putOk n k = true
    · obtain ⟨g1, g2, g3⟩ := gp ha
      rw [ha] at ea
      clear gp
      have hk4 : k ≤ 4 := ((Oct.putOk_spec n k).1 ha).2.1
      have hm : (s ++ Oct.putS n k ++ s).size ≤ maxLen := by
        simp only [ByteArray.size_append]; unfold maxLen; omega
      go_enter Try.func4, Try.ntmps4
      go_wp2_with fail
      refine (put_any _ _ _).mono ?_
      rintro e w1 ⟨rfl, k1⟩
      generalize hP : Oct.putS n k = P at *
      clear hP
      go_wp2_with fail
      refine (get_any _ _ _ _ hm (by omega)).mono ?_
      rintro e w2 ⟨rfl, hw2⟩
      subst hw2
      rw [g1, g2]
      go_wp2_with fail
      refine (get_any _ _ _ _ hs hn).mono ?_
      rintro e w2 ⟨rfl, hw2⟩
      subst hw2
      by_cases hg : Oct.getOk s n k = true
      · obtain ⟨p1, p2⟩ := pg hg
        clear pg
        rw [hg]
        go_wp2_with fail
        refine (take_any _ _ _ _ hs hn).mono ?_
        rintro e w2 ⟨rfl, hw2⟩
        subst hw2
        go_wp2_with fail
        refine (put_any _ _ _).mono ?_
        rintro e w3 ⟨rfl, k3⟩
        rw [p2]
        go_wp2_with fail
        refine (live_any _).mono ?_
        rintro e w4 ⟨rfl, k4⟩
        go_wp2
        go_ret
        exact ⟨rfl, (k1.trans k3).trans k4⟩
      · simp only [Bool.not_eq_true] at hg
        clear pg
        rw [hg]
        go_wp2_with fail
        refine (live_any _).mono ?_
        rintro e w4 ⟨rfl, k4⟩
        go_wp2
        go_ret
        exact ⟨rfl, k1.trans k4⟩
    · simp only [Bool.not_eq_true] at ha
      clear gp
      rw [ha] at ea
      go_enter Try.func4, Try.ntmps4
      go_wp2_with fail
      refine (put_any _ _ _).mono ?_
      rintro e w1 ⟨rfl, k1⟩
      generalize hP : Oct.putS n k = P at ea ⊢
      clear hP
      go_wp2_with fail
      refine (get_any _ _ _ _ hs hn).mono ?_
      rintro e w2 ⟨rfl, hw2⟩
      subst hw2
      by_cases hg : Oct.getOk s n k = true
      · obtain ⟨p1, p2⟩ := pg hg
        clear pg
        rw [hg]
        go_wp2_with fail
        refine (take_any _ _ _ _ hs hn).mono ?_
        rintro e w2 ⟨rfl, hw2⟩
        subst hw2
        go_wp2_with fail
        refine (put_any _ _ _).mono ?_
        rintro e w3 ⟨rfl, k3⟩
        rw [p2]
        go_wp2_with fail
        refine (live_any _).mono ?_
        rintro e w4 ⟨rfl, k4⟩
        go_wp2
        go_ret
        exact ⟨rfl, (k1.trans k3).trans k4⟩
      · simp only [Bool.not_eq_true] at hg
        clear pg
        rw [hg]
        go_wp2_with fail
        refine (live_any _).mono ?_
        rintro e w4 ⟨rfl, k4⟩
        go_wp2
        go_ret
        exact ⟨rfl, k1.trans k4⟩
end Go.Proofs.Ytllejfkjomcgbaa
