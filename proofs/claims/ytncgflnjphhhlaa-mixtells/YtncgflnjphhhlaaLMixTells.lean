/- MixTells answers true, for every input: the walk. -/
import Derived.Test.YtncgflnjphhhlaaMixLive
namespace Go.Proofs.Ytncgflnjphhhlaa
open Go.RowKit

set_option maxHeartbeats 1600000 in
theorem MixTells_walk (n : ByteArray) (b : Int) (t : ByteArray) (w : World) (hn : n.size ≤ maxLen) (_ : -9223372036854775808 ≤ b ∧ b ≤ 9223372036854775807) (ht : t.size ≤ maxLen) :
    Calls Try.prog 3 #[.string n, .int .i64 b, .string t] w fun e w' => e = .returned (.bool true) ∧ Keeps w w' := by
  have hn' := hn
  have ht' := ht
  unfold maxLen at hn' ht'
  by_cases l1 : 600 < (n.size : Int)
  · go_enter Try.func3, Try.ntmps3
    go_wp2_with (go_at_call 7; refine (live3_any _).mono ?_; rintro e w3 ⟨rfl, k3⟩)
    go_ret
    exact ⟨rfl, by assumption⟩
  by_cases l2 : 600 < (t.size : Int)
  · go_enter Try.func3, Try.ntmps3
    go_wp2_with (go_at_call 7; refine (live3_any _).mono ?_; rintro e w3 ⟨rfl, k3⟩)
    go_ret
    exact ⟨rfl, by assumption⟩
  go_enter Try.func3, Try.ntmps3
  go_wp2_with fail
  refine (letters_any _ _ hn).mono ?_
  rintro e wk1 ⟨rfl, k1⟩
  go_wp2_with fail
  refine (refletters_any _ _ hn).mono ?_
  rintro e wk2 ⟨rfl, k2⟩
  go_wp2_with fail
  refine (mix_any _ _ _ hn).mono ?_
  rintro e wk3 ⟨rfl, k3⟩
  go_wp2_with fail
  refine (refmix_any _ _ _ hn).mono ?_
  rintro e wk4 ⟨rfl, k4⟩
  go_wp2_with fail
  refine (bits_any _ _ hn).mono ?_
  rintro e wk5 ⟨rfl, k5⟩
  go_wp2_with fail
  refine (refbits_any _ _ hn).mono ?_
  rintro e wk6 ⟨rfl, k6⟩
  go_wp2_with fail
  refine (echoes_any _ _ _ hn).mono ?_
  rintro e wq ⟨rfl, hw⟩
  subst hw
  go_wp2_with fail
  refine (refechoes_any _ _ _ hn).mono ?_
  rintro e wk7 ⟨rfl, k7⟩
  go_wp2_with fail
  refine (live3_any _).mono ?_
  rintro e wk8 ⟨rfl, k8⟩
  go_wp2
  go_ret
  exact ⟨rfl, ((((((k1.trans k2).trans k3).trans k4).trans k5).trans k6).trans k7).trans k8⟩
end Go.Proofs.Ytncgflnjphhhlaa
