/- What octet.Lay, and the document's, answer, for every input. -/
import Derived.Test.YtllejfkjomcgbaaOctWalk1
import Derived.Test.YtllejfkjomcgbaaBytes
import Derived.Deep.QuietTactic
import Derived.BigQuiet
namespace Go.Proofs.Ytllejfkjomcgbaa
open Go.RowKit

set_option maxHeartbeats 400000 in
theorem lay_any (s : ByteArray) (p : Int) (t : ByteArray) (w : World) (hs : s.size ≤ maxLen) (ht : t.size ≤ maxLen) (hp : p ≤ 9223372036854775807) :
    Calls Try.prog 14 #[.string s, .int .i64 p, .string t] w fun e w' => e = .returned (.tuple #[.string (Oct.layS s p t), .bool (Oct.layOk s p t)]) ∧ Keeps w w' := by
  have hs' := hs
  unfold maxLen at hs'
  have ht' := ht
  unfold maxLen at ht'
  by_cases h : 0 ≤ p ∧ (t.size : Int) ≤ (s.size : Int) - p
  · have hk : Oct.takeOk s p t.size = true := by simp [Oct.takeOk]; omega
    obtain ⟨h1, h2⟩ := h
    obtain ⟨q, rfl⟩ := Int.eq_ofNat_of_zero_le h1
    have hcv2 := fun w => run_bytes_of_string (P := Try.prog) w 9 37 5 s Try.underlying9 Try.underlying37 Try.underlying5
    go_enter Try.func14, Try.ntmps14
    go_wp2_with (go_at_call 18; refine (holds_any _ _ _ _ hs hp).mono ?_; rintro e w' ⟨rfl, rfl⟩)
    clear hcv2
    generalize hcap : grownCap w' s.size 0 5 = cap
    clear hcap
    go_loopw [20] (fun i wr => ∃ j : Nat, j ≤ t.size ∧ i = .int .i64 j ∧ Row wr w'.heap.size (Oct.laid s.data.toList q t.data.toList j) ∧ Below w'.heap.size w' wr) (fun i _ => t.size - (intOf i).toNat)
    case atStart => exact ⟨0, Nat.zero_le _, rfl, by rw [Oct.laid_zero]; exact (Row.made w' s cap).drew, ((Below.refl _ _).alloc (Nat.le_refl _) _).drew⟩
    case round =>
      obtain ⟨j, hj, rfl, hrow, hbel⟩ := hrel
      have hll := Oct.laid_length s.data.toList q t.data.toList j (by simpa using hj) (by simp; omega)
      have hll' : (Oct.laid s.data.toList q t.data.toList j).length = s.size := by rw [hll]; simp
      by_cases hlt : j < t.size
      · obtain ⟨c0, hc⟩ : ∃ c0, wr.cell? ⟨w'.heap.size, q + j, none⟩ = some c0 := ⟨_, hrow.cell (q + j) (by omega)⟩
        have hf := hrow.free (q + j) (by omega)
        have hR := hrow.set (q + j) t[j] (by omega)
        have hst : (Oct.laid s.data.toList q t.data.toList j).set (q + j) t[j] = Oct.laid s.data.toList q t.data.toList (j + 1) := Oct.laid_step s.data.toList q t.data.toList j (by simpa using hlt) (by simp; omega)
        rw [hst] at hR
        have HR : Hid (Row (wr.setCell ⟨w'.heap.size, q + j, none⟩ (bv t[j])) w'.heap.size (Oct.laid s.data.toList q t.data.toList (j + 1))) := hR
        clear hR hst hrow hll
        go_wp2
        go_roundw
        case rel => exact ⟨j + 1, by omega, by go_num, HR.out, hbel.setCell (Nat.le_refl _) _⟩
        case measure => simp [intOf]; omega
      · obtain rfl : j = t.size := by omega
        have hcv := hrow.conv s.size cap hll'
        go_wp2
        go_ret2
        exact ⟨ret_str_bool (by rw [Oct.layS_yes s q t hk]) (by rw [show Oct.layOk s q t = true from hk]), hbel⟩
  · have hk : Oct.takeOk s p t.size = false := by simp [Oct.takeOk]; omega
    clear h
    go_enter Try.func14, Try.ntmps14
    go_wp2_with (go_at_call 18; refine (holds_any _ _ _ _ hs hp).mono ?_; rintro e w' ⟨rfl, rfl⟩)
    go_ret2
    exact ⟨by simp [Oct.layS, Oct.layOk, hk], Keeps.refl _⟩

theorem laid_str (s : ByteArray) (q : Nat) (t : ByteArray) (hk : Oct.layOk s q t = true) :
    s.extract 0 q ++ t ++ s.extract (q + t.size) s.size = Oct.layS s q t := by
  rw [Oct.layS_yes s q t hk]
  apply ByteArray.ext
  apply Array.ext'
  simp [Oct.laid, List.take_of_length_le]

set_option maxHeartbeats 400000 in
theorem reflay_any (s : ByteArray) (p : Int) (t : ByteArray) (w : World) (hs : s.size ≤ maxLen) (ht : t.size ≤ maxLen) (hp : p ≤ 9223372036854775807) :
    Calls Try.prog 15 #[.string s, .int .i64 p, .string t] w fun e w' => e = .returned (.tuple #[.string (Oct.layS s p t), .bool (Oct.layOk s p t)]) ∧ Keeps w w' := by
  have hs' := hs
  unfold maxLen at hs'
  have ht' := ht
  unfold maxLen at ht'
  by_cases h : 0 ≤ p ∧ (t.size : Int) ≤ (s.size : Int) - p
  · have hk : Oct.takeOk s p t.size = true := by simp [Oct.takeOk]; omega
    obtain ⟨h1, h2⟩ := h
    obtain ⟨q, rfl⟩ := Int.eq_ofNat_of_zero_le h1
    go_enter Try.func15, Try.ntmps15
    go_wp2_with (go_at_call 11; refine (reftake_any _ _ _ _ hs hp).mono ?_; rintro e w' ⟨rfl, rfl⟩)
    go_quiet (fail)
    go_wp2
    go_ret2
    exact ⟨ret_str_bool (laid_str s q t hk) (by rw [show Oct.layOk s q t = true from hk]), (Keeps.refl _).drewN _⟩
  · have hk : Oct.takeOk s p t.size = false := by simp [Oct.takeOk]; omega
    clear h
    go_enter Try.func15, Try.ntmps15
    go_wp2_with (go_at_call 11; refine (reftake_any _ _ _ _ hs hp).mono ?_; rintro e w' ⟨rfl, rfl⟩)
    go_ret2
    exact ⟨by simp [Oct.layS, Oct.layOk, hk], Keeps.refl _⟩
end Go.Proofs.Ytllejfkjomcgbaa
