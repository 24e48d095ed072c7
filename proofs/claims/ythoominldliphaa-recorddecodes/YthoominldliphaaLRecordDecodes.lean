/- RecordDecodes answers true, for every input: the walk. -/
import Derived.Test.YthoominldliphaaRecLive
namespace Go.Proofs.Ythoominldliphaa
open Go.RowKit

set_option maxHeartbeats 4000000 in
theorem RecordDecodes_walk (m : ByteArray) (p : Int) (w : World) (hm : m.size ≤ maxLen) (hp : -9223372036854775808 ≤ p ∧ p ≤ 9223372036854775807) :
    Calls Try.prog 3 #[.string m, .int .i64 p] w fun e w' => e = .returned (.bool true) ∧ Keeps w w' := by
  have hm' := hm
  unfold maxLen at hm'
  by_cases hl : 2000 < (m.size : Int)
  · go_enter Try.func3, Try.ntmps3
    go_wp2_with (go_at_call 8; refine (live6_any _).mono ?_; rintro e w3 ⟨rfl, k3⟩)
    go_ret
    exact ⟨rfl, k3⟩
  have HA := hide (fun W => decode_any m p W (by omega) hp.2)
  have HB := hide (fun W => refdecode_any m p W (by omega) hp.2)
  generalize decR m p = D at *
  obtain ⟨⟨n, t, c, l, d⟩, nx, er⟩ := D
  unfold decV recV at *
  go_enter Try.func3, Try.ntmps3
  go_wp2_with fail
  refine (HA.out _).mono ?_
  rintro e w1 ⟨rfl, k1⟩
  have B1 := Box5.made w1 (.string n) (.int .i64 t) (.int .i64 c) (.int .i64 l) (.string d) 24
  have K := k1.alloc (.cells #[.string n, .int .i64 t, .int .i64 c, .int .i64 l, .string d] 24)
  clear k1
  go_wp2_with fail
  generalize w1.alloc (.cells #[.string n, .int .i64 t, .int .i64 c, .int .i64 l, .string d] 24) = W at *
  refine (HB.out _).mono ?_
  rintro e w2 ⟨rfl, k2⟩
  have k3 := k2.alloc (.cells #[.string n, .int .i64 t, .int .i64 c, .int .i64 l, .string d] 24)
  obtain ⟨x0, x1, x2, x3, x4, x5⟩ := B1.keeps k2
  have x6 : w1.heap.size ≠ w2.heap.size := Nat.ne_of_lt x5
  clear HA HB
  go_wp2_with fail
  refine (live6_any _).mono ?_
  rintro e w3 ⟨rfl, k4⟩
  go_wp2
  go_ret
  exact ⟨rfl, (K.trans k3).trans k4⟩
end Go.Proofs.Ythoominldliphaa
