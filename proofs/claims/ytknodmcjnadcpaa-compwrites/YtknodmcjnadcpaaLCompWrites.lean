/- CompWrites answers true, for every input: the walk. -/
import Derived.Test.YtknodmcjnadcpaaCompLive
namespace Go.Proofs.Ytknodmcjnadcpaa
open Go.RowKit

set_option maxHeartbeats 800000 in
theorem CompWrites_walk (b : ByteArray) (p : Int) (n : ByteArray) (w : World) (hb : b.size ≤ maxLen) (_ : -9223372036854775808 ≤ p ∧ p ≤ 9223372036854775807) (hn : n.size ≤ maxLen) :
    Calls Try.prog 4 #[.string b, .int .i64 p, .string n] w fun e w' => e = .returned (.bool true) ∧ Keeps w w' := by
  have hb' := hb
  have hn' := hn
  unfold maxLen at hb' hn'
  by_cases l1 : 300 < (b.size : Int)
  · go_enter Try.func4, Try.ntmps4
    go_wp2_with (go_at_call 9; refine (live4_any _).mono ?_; rintro e w3 ⟨rfl, k3⟩)
    go_ret
    exact ⟨rfl, by assumption⟩
  by_cases l2 : 300 < (n.size : Int)
  · go_enter Try.func4, Try.ntmps4
    go_wp2_with (go_at_call 9; refine (live4_any _).mono ?_; rintro e w3 ⟨rfl, k3⟩)
    go_ret
    exact ⟨rfl, by assumption⟩
  go_enter Try.func4, Try.ntmps4
  go_wp2_with fail
  refine (write_any _ _ _ _ hb hn).mono ?_
  rintro e wk1 ⟨rfl, k1⟩
  go_wp2_with fail
  refine (refwrite_any _ _ _ _ hb hn).mono ?_
  rintro e wk2 ⟨rfl, k2⟩
  go_wp2_with fail
  refine (live4_any _).mono ?_
  rintro e wk3 ⟨rfl, k3⟩
  go_wp2
  go_ret
  exact ⟨rfl, (k1.trans k2).trans k3⟩
end Go.Proofs.Ytknodmcjnadcpaa
