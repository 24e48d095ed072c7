/- CompReads answers true, for every input: the walk. -/
import Derived.Test.YtknodmcjnadcpaaCompLive
namespace Go.Proofs.Ytknodmcjnadcpaa
open Go.RowKit

set_option maxHeartbeats 800000 in
theorem CompReads_walk (s : ByteArray) (p : Int) (w : World) (hs : s.size ≤ maxLen) (hp : -9223372036854775808 ≤ p ∧ p ≤ 9223372036854775807) :
    Calls Try.prog 3 #[.string s, .int .i64 p] w fun e w' => e = .returned (.bool true) ∧ Keeps w w' := by
  have hs' := hs
  unfold maxLen at hs'
  by_cases l1 : 2000 < (s.size : Int)
  · go_enter Try.func3, Try.ntmps3
    go_wp2_with (go_at_call 9; refine (live4_any _).mono ?_; rintro e w3 ⟨rfl, k3⟩)
    go_ret
    exact ⟨rfl, by assumption⟩
  go_enter Try.func3, Try.ntmps3
  go_wp2_with fail
  refine (read_any _ _ _ hs hp.2).mono ?_
  rintro e wk1 ⟨rfl, k1⟩
  go_wp2_with fail
  refine (refread_any _ _ _ hs hp.2).mono ?_
  rintro e wq ⟨rfl, hw⟩
  subst hw
  go_wp2_with fail
  refine (live4_any _).mono ?_
  rintro e wk2 ⟨rfl, k2⟩
  go_wp2
  go_ret
  exact ⟨rfl, k1.trans k2⟩
end Go.Proofs.Ytknodmcjnadcpaa
