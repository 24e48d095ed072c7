/- CompNames answers true, for every input: the walk. -/
import Derived.Test.YtknodmcjnadcpaaCompLive
namespace Go.Proofs.Ytknodmcjnadcpaa
open Go.RowKit

set_option maxHeartbeats 800000 in
theorem CompNames_walk (s : ByteArray) (p : Int) (w : World) (hs : s.size ≤ maxLen) (hp : -9223372036854775808 ≤ p ∧ p ≤ 9223372036854775807) :
    Calls Try.prog 6 #[.string s, .int .i64 p] w fun e w' => e = .returned (.bool true) ∧ Keeps w w' := by
  have hs' := hs
  unfold maxLen at hs'
  by_cases l1 : 2000 < (s.size : Int)
  · go_enter Try.func6, Try.ntmps6
    go_wp2_with (go_at_call 9; refine (live4_any _).mono ?_; rintro e w3 ⟨rfl, k3⟩)
    go_ret
    exact ⟨rfl, by assumption⟩
  rcases Cm.read_names (bl s) p with h | h | ⟨n, k, h, h1, h2, h3, h4⟩
  · have H := hide h
    clear h
    go_enter Try.func6, Try.ntmps6
    go_wp2_with fail
    refine (read_any _ _ _ hs hp.2).mono ?_
    rintro e wk1 ⟨rfl, k1⟩
    rw [H.out, show rrS (Cm.bad 2) = ⟨#[]⟩ from rfl, show (Cm.bad 2).next = 0 from rfl, show (Cm.bad 2).e = 2 from rfl]
    go_wp2_with fail
    refine (live4_any _).mono ?_
    rintro e wk2 ⟨rfl, k2⟩
    go_wp2
    go_ret
    exact ⟨rfl, k1.trans k2⟩
  · have H := hide h
    clear h
    go_enter Try.func6, Try.ntmps6
    go_wp2_with fail
    refine (read_any _ _ _ hs hp.2).mono ?_
    rintro e wk1 ⟨rfl, k1⟩
    rw [H.out, show rrS (Cm.bad 3) = ⟨#[]⟩ from rfl, show (Cm.bad 3).next = 0 from rfl, show (Cm.bad 3).e = 3 from rfl]
    go_wp2_with fail
    refine (live4_any _).mono ?_
    rintro e wk2 ⟨rfl, k2⟩
    go_wp2
    go_ret
    exact ⟨rfl, k1.trans k2⟩
  · have H := hide h
    rw [bl_length] at h4
    have hnm : bl (rrS ⟨n, k, 0⟩) = n := bl_mk n
    have hnz : (rrS ⟨n, k, 0⟩).size ≤ maxLen := by
      have := ((Nm.okL_spec n).1 h1).1
      rw [← bl_length, hnm]; unfold maxLen; omega
    have HN : Hid (Nm.okL (bl (rrS ⟨n, k, 0⟩)) = true) := by unfold Hid; rw [hnm]; exact h1
    clear h hnm
    generalize hX : rrS ⟨n, k, 0⟩ = X at *
    have HX := hide hX
    clear hX
    go_enter Try.func6, Try.ntmps6
    go_wp2_with fail
    refine (read_any _ _ _ hs hp.2).mono ?_
    rintro e wk1 ⟨rfl, k1⟩
    rw [H.out, HX.out, show Cm.RR.next ⟨n, k, 0⟩ = k from rfl, show Cm.RR.e ⟨n, k, 0⟩ = 0 from rfl]
    go_wp2_with fail
    refine (refcheck_any _ _ hnz).mono ?_
    rintro e wk2 ⟨rfl, k2⟩
    rw [HN.out]
    go_wp2_with fail
    refine (live4_any _).mono ?_
    rintro e wk3 ⟨rfl, k3⟩
    go_wp2
    go_ret
    exact ⟨rfl, (k1.trans k2).trans k3⟩
end Go.Proofs.Ytknodmcjnadcpaa
