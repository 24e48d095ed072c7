/- NameTexts answers true, for every input: the walk. -/
import Derived.Test.YtedelldhkjkghaaTextRef5
namespace Go.Proofs.Ytedelldhkjkghaa
open Go.RowKit

set_option maxHeartbeats 1000000 in
theorem NameTexts_walk (n t : ByteArray) (w : World) (hn : n.size ≤ maxLen) (ht : t.size ≤ maxLen) :
    Calls Try.prog 5 #[.string n, .string t] w fun e w' => e = .returned (.bool true) ∧ Keeps w w' := by
  have hn' := hn
  have ht' := ht
  unfold maxLen at hn' ht'
  by_cases l1 : 1200 < (n.size : Int)
  · go_enter Try.func5, Try.ntmps5
    go_wp2_with (go_at_call 10; refine (live2_any _).mono ?_; rintro e w3 ⟨rfl, k3⟩)
    go_ret
    exact ⟨rfl, by assumption⟩
  by_cases l2 : 1200 < (t.size : Int)
  · go_enter Try.func5, Try.ntmps5
    go_wp2_with (go_at_call 10; refine (live2_any _).mono ?_; rintro e w3 ⟨rfl, k3⟩)
    go_ret
    exact ⟨rfl, by assumption⟩
  go_enter Try.func5, Try.ntmps5
  go_wp2_with fail
  refine (parse_any _ _ ht).mono ?_
  rintro e w1 ⟨rfl, k1⟩
  go_wp2_with fail
  refine (refparse_any _ _ ht).mono ?_
  rintro e w2 ⟨rfl, k2⟩
  go_wp2_with fail
  refine (text_any _ _ hn).mono ?_
  rintro e w3 ⟨rfl, k3⟩
  go_wp2_with fail
  refine (reftext_any _ _ hn).mono ?_
  rintro e w4 ⟨rfl, k4⟩
  go_wp2_with fail
  refine (live2_any _).mono ?_
  rintro e w5 ⟨rfl, k5⟩
  go_wp2
  go_ret
  exact ⟨rfl, (((k1.trans k2).trans k3).trans k4).trans k5⟩
end Go.Proofs.Ytedelldhkjkghaa
