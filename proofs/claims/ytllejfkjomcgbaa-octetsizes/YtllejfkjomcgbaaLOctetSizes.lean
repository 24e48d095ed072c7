/- OctetSizes answers true, for every input: the walk. -/
import Derived.Test.YtllejfkjomcgbaaOctLive
import Derived.Test.YtllejfkjomcgbaaOctMath2
namespace Go.Proofs.Ytllejfkjomcgbaa
open Go.RowKit

theorem Oct.putS_zero (n : Int) : Oct.putS n 0 = ⟨#[]⟩ := Oct.putS_no n 0 (by simp [Oct.putOk])
theorem Oct.putS_five (n : Int) : Oct.putS n 5 = ⟨#[]⟩ := Oct.putS_no n 5 (by simp [Oct.putOk])
theorem Oct.empty_isEmpty : ((⟨#[]⟩ : ByteArray).toList.isEmpty) = true := by decide +kernel
/-- One byte more: a byte 0 ahead; or there were none. -/
theorem Oct.putS_next (n : Int) (j : Nat) (h1 : 1 ≤ j) (h4 : j ≤ 3) (h : Oct.putOk n j = true) : Oct.putOk n ((j : Int) + 1) = true ∧ Oct.putS n ((j : Int) + 1) = ⟨#[0]⟩ ++ Oct.putS n j := by
  have hp := (Oct.putOk_spec n j).1 h
  obtain ⟨m, rfl⟩ := Int.eq_ofNat_of_zero_le hp.2.2.1
  have hm : m < 256 ^ j := by rw [Oct.putOk_nat m j h1 (by omega)] at h; simpa using h
  have hn : Oct.putOk m ((j : Int) + 1) = true := by
    have e := Oct.putOk_nat m (j + 1) (by omega) (by omega)
    rw [show (((j + 1 : Nat) : Nat) : Int) = (j : Int) + 1 by omega] at e
    rw [e]
    have : 256 ^ j ≤ 256 ^ (j + 1) := Nat.pow_le_pow_right (by decide) (by omega)
    simp only [decide_eq_true_eq]
    omega
  refine ⟨hn, ?_⟩
  rw [Oct.putS_yes _ _ hn, Oct.putS_yes _ _ h, show ((j : Int) + 1).toNat = j + 1 by omega, Int.toNat_natCast, Int.toNat_natCast, Oct.beL_zero j m hm]
  apply ByteArray.ext
  apply Array.ext'
  simp
theorem Oct.putS_len (n k : Int) (h : Oct.putOk n k = true) : ((Oct.putS n k).size : Int) = k := (Oct.get_put n k ⟨#[]⟩ h).2.2

/-- What one round of the statement's loop asks. -/
theorem Oct.round (n : Int) (j : Nat) (h1 : 1 ≤ j) (h4 : j ≤ 4) :
    (Oct.putOk n j = false → Oct.putOk n ((j : Int) - 1) = false ∧ ¬ (0 ≤ n ∧ n < 256)) ∧
    (Oct.putOk n j = true → Oct.putOk n ((j : Int) - 1) = true → Oct.putS n j = ⟨#[0]⟩ ++ Oct.putS n ((j : Int) - 1)) := by
  have hj : j = 1 ∨ j = 2 ∨ j = 3 ∨ j = 4 := by omega
  rcases hj with rfl | rfl | rfl | rfl
  · simp [Oct.putOk]
  · refine ⟨fun h => ⟨?_, ?_⟩, fun h g => (Oct.putS_next n 1 (by omega) (by omega) g).2⟩
    · cases e : Oct.putOk n (((2 : Nat) : Int) - 1)
      · rfl
      · exact absurd (Oct.putS_next n 1 (by omega) (by omega) e).1 (by rw [show (((1 : Nat) : Int) + 1) = ((2 : Nat) : Int) from rfl, h]; decide)
    · simp [Oct.putOk] at h; omega
  · refine ⟨fun h => ⟨?_, ?_⟩, fun h g => (Oct.putS_next n 2 (by omega) (by omega) g).2⟩
    · cases e : Oct.putOk n (((3 : Nat) : Int) - 1)
      · rfl
      · exact absurd (Oct.putS_next n 2 (by omega) (by omega) e).1 (by rw [show (((2 : Nat) : Int) + 1) = ((3 : Nat) : Int) from rfl, h]; decide)
    · simp [Oct.putOk] at h; omega
  · refine ⟨fun h => ⟨?_, ?_⟩, fun h g => (Oct.putS_next n 3 (by omega) (by omega) g).2⟩
    · cases e : Oct.putOk n (((4 : Nat) : Int) - 1)
      · rfl
      · exact absurd (Oct.putS_next n 3 (by omega) (by omega) e).1 (by rw [show (((3 : Nat) : Int) + 1) = ((4 : Nat) : Int) from rfl, h]; decide)
    · simp [Oct.putOk] at h; omega

set_option maxHeartbeats 1000000 in
theorem OctetSizes_walk (n : Int) (w : World) (_ : -9223372036854775808 ≤ n ∧ n ≤ 9223372036854775807) :
    Calls Try.prog 8 #[.int .i64 n] w fun e w' => e = .returned (.bool true) ∧ Keeps w w' := by
  go_enter Try.func8, Try.ntmps8
  go_wp2
  go_loopw [3, 4] (fun v i wr => ∃ j : Nat, 1 ≤ j ∧ j ≤ 5 ∧ i = .int .i64 j ∧ v = .string (Oct.putS n ((j : Int) - 1)) ∧ Keeps w wr) (fun _ i _ => 5 - (intOf i).toNat)
  case atStart => exact ⟨1, by omega, by omega, rfl, by simp [Oct.putS_zero], Keeps.refl _⟩
  case round =>
    obtain ⟨j, h1, h5, rfl, rfl, hk⟩ := hrel
    by_cases hlt : j ≤ 4
    · obtain ⟨r1, r2⟩ := Oct.round n j h1 hlt
      have e1 := Oct.putS_empty n j
      have e2 := Oct.putS_empty n ((j : Int) - 1)
      have hle := Oct.putS_len n j
      have hle' := Oct.putS_len n ((j : Int) - 1)
      have hi : (j : Int) ≤ 4 := by omega
      by_cases ha : Oct.putOk n j = true
      · rw [ha] at e1
        replace hle := hle ha
        replace r2 := r2 ha
        clear r1
        have q1 : ((Oct.putS n j).size : Int) ≤ 4 := by omega
        go_wp2_with fail
        refine (put_any _ _ _).mono ?_
        rintro e w1 ⟨rfl, k1⟩
        by_cases hb : Oct.putOk n ((j : Int) - 1) = true
        · rw [hb] at e2
          replace hle' := hle' hb
          replace r2 := r2 hb
          have q2 : ((Oct.putS n ((j : Int) - 1)).size : Int) ≤ 4 := by omega
          have HR := hide r2
          generalize hX : Oct.putS n ((j : Int) - 1) = X at *
          have hne : (((Oct.putS n j).size : Int) != (j : Int)) = false := by simp; omega
          have hap : ((⟨#[0]⟩ : ByteArray) ++ X).toList = (Oct.putS n j).toList := by rw [HR.out]
          have HP := hide hk
          generalize hY : Oct.putS n j = Y at *
          have HY := hide hY
          clear hX hY r2 hle' hle HR
          go_wp2
          go_roundw
          case rel => exact ⟨j + 1, by omega, by omega, by go_num, by rw [← HY.out]; simp, HP.out.trans k1⟩
          case measure => simp [intOf]; omega
        · simp only [Bool.not_eq_true] at hb
          rw [hb] at e2
          generalize hX : Oct.putS n ((j : Int) - 1) = X at *
          have hne : (((Oct.putS n j).size : Int) != (j : Int)) = false := by simp; omega
          have HP := hide hk
          generalize hY : Oct.putS n j = Y at *
          have HY := hide hY
          clear hX hY r2 hle' hle
          go_wp2
          go_roundw
          case rel => exact ⟨j + 1, by omega, by omega, by go_num, by rw [← HY.out]; simp, HP.out.trans k1⟩
          case measure => simp [intOf]; omega
      · simp only [Bool.not_eq_true] at ha
        rw [ha] at e1
        obtain ⟨r3, r4⟩ := r1 ha
        rw [r3] at e2
        have hX : Oct.putS n j = Oct.putS n ((j : Int) - 1) := by rw [Oct.putS_no n j ha, Oct.putS_no n _ r3]
        have HX := hide hX
        clear r1 r2 hle hle' hX
        by_cases hn0 : 0 ≤ n
        · have hn1 : ¬ n < 256 := fun h => r4 ⟨hn0, h⟩
          clear r4
          go_wp2_with fail
          refine (put_any _ _ _).mono ?_
          rintro e w1 ⟨rfl, k1⟩
          go_wp2
          go_roundw
          case rel => exact ⟨j + 1, by omega, by omega, by go_num, by rw [show (((j + 1 : Nat) : Int) - 1) = (j : Int) by omega, HX.out], hk.trans k1⟩
          case measure => simp [intOf]; omega
        · clear r4
          go_wp2_with fail
          refine (put_any _ _ _).mono ?_
          rintro e w1 ⟨rfl, k1⟩
          go_wp2
          go_roundw
          case rel => exact ⟨j + 1, by omega, by omega, by go_num, by rw [show (((j + 1 : Nat) : Int) - 1) = (j : Int) by omega, HX.out], hk.trans k1⟩
          case measure => simp [intOf]; omega
    · obtain rfl : j = 5 := by omega
      have e2 := Oct.putS_empty n 4
      rw [show (((5 : Nat) : Int) - 1) = 4 from rfl]
      have z0 := Oct.putS_zero n
      have z5 := Oct.putS_five n
      have hok : Oct.putOk n 4 = (decide (0 ≤ n) && decide (n < 4294967296)) := by
        rw [Bool.eq_iff_iff, Oct.putOk_spec]; simp
      by_cases hn0 : 0 ≤ n
      · by_cases hn1 : n < 4294967296
        · rw [hok] at e2
          simp only [hn0, hn1, decide_true, Bool.and_self, Bool.not_true] at e2
          clear hok
          go_wp2_with fail
          refine (put_any _ _ _).mono ?_
          rintro e w1 ⟨rfl, k1⟩
          rw [z0]
          go_wp2_with fail
          refine (put_any _ _ _).mono ?_
          rintro e w2 ⟨rfl, k2⟩
          rw [z5]
          go_wp2_with fail
          refine (live_any _).mono ?_
          rintro e w3 ⟨rfl, k3⟩
          go_wp2
          go_ret
          exact ⟨rfl, ((hk.trans k1).trans k2).trans k3⟩
        · rw [hok] at e2
          simp only [hn0, hn1, decide_true, decide_false, Bool.and_false, Bool.not_false] at e2
          clear hok
          go_wp2_with fail
          refine (put_any _ _ _).mono ?_
          rintro e w1 ⟨rfl, k1⟩
          rw [z0]
          go_wp2_with fail
          refine (put_any _ _ _).mono ?_
          rintro e w2 ⟨rfl, k2⟩
          rw [z5]
          go_wp2_with fail
          refine (live_any _).mono ?_
          rintro e w3 ⟨rfl, k3⟩
          go_wp2
          go_ret
          exact ⟨rfl, ((hk.trans k1).trans k2).trans k3⟩
      · rw [hok] at e2
        simp only [hn0, decide_false, Bool.false_and, Bool.not_false] at e2
        clear hok
        go_wp2_with fail
        refine (put_any _ _ _).mono ?_
        rintro e w1 ⟨rfl, k1⟩
        rw [z0]
        go_wp2_with fail
        refine (put_any _ _ _).mono ?_
        rintro e w2 ⟨rfl, k2⟩
        rw [z5]
        go_wp2_with fail
        refine (live_any _).mono ?_
        rintro e w3 ⟨rfl, k3⟩
        go_wp2
        go_ret
        exact ⟨rfl, ((hk.trans k1).trans k2).trans k3⟩
end Go.Proofs.Ytllejfkjomcgbaa
