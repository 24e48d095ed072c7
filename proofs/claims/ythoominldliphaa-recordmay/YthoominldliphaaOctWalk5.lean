/- What octet.Lay, and the document's, answer, for every input. -/
import Derived.Test.YthoominldliphaaOctWalk1
import Derived.Test.YthoominldliphaaBytes
import Derived.Deep.QuietTactic
import Derived.BigQuiet
namespace Go.Proofs.Ythoominldliphaa
open Go.RowKit

theorem laid_str (s : ByteArray) (q : Nat) (t : ByteArray) (hk : Oct.layOk s q t = true) :
    s.extract 0 q ++ t ++ s.extract (q + t.size) s.size = Oct.layS s q t := by
  rw [Oct.layS_yes s q t hk]
  apply ByteArray.ext
  apply Array.ext'
  simp [Oct.laid, List.take_of_length_le]

set_option maxHeartbeats 400000 in
theorem reflay_any (s : ByteArray) (p : Int) (t : ByteArray) (w : World) (hs : s.size ≤ maxLen) (ht : t.size ≤ maxLen) (hp : p ≤ 9223372036854775807) :
    Calls Try.prog 19 #[.string s, .int .i64 p, .string t] w fun e w' => e = .returned (.tuple #[.string (Oct.layS s p t), .bool (Oct.layOk s p t)]) ∧ Keeps w w' := by
  have hs' := hs
  unfold maxLen at hs'
  have ht' := ht
  unfold maxLen at ht'
  by_cases h : 0 ≤ p ∧ (t.size : Int) ≤ (s.size : Int) - p
  · have hk : Oct.takeOk s p t.size = true := by simp [Oct.takeOk]; omega
    obtain ⟨h1, h2⟩ := h
    obtain ⟨q, rfl⟩ := Int.eq_ofNat_of_zero_le h1
    go_enter Try.func19, Try.ntmps19
    go_wp2_with (go_at_call 25; refine (reftake_any _ _ _ _ hs hp).mono ?_; rintro e w' ⟨rfl, rfl⟩)
    go_quiet (fail)
    go_wp2
    go_ret2
    exact ⟨ret_str_bool (laid_str s q t hk) (by rw [show Oct.layOk s q t = true from hk]), (Keeps.refl _).drewN _⟩
  · have hk : Oct.takeOk s p t.size = false := by simp [Oct.takeOk]; omega
    clear h
    go_enter Try.func19, Try.ntmps19
    go_wp2_with (go_at_call 25; refine (reftake_any _ _ _ _ hs hp).mono ?_; rintro e w' ⟨rfl, rfl⟩)
    go_ret2
    exact ⟨by simp [Oct.layS, Oct.layOk, hk], Keeps.refl _⟩
end Go.Proofs.Ythoominldliphaa
