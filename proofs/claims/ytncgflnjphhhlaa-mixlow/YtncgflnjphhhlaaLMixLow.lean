/- MixLow answers true, for every input: the walk. -/
import Derived.Test.YtncgflnjphhhlaaLMixApart
namespace Go.Proofs.Ytncgflnjphhhlaa
open Go.RowKit

theorem low_mix {n : ByteArray} (h : Nm.okL (bl n) = true) : mixS n 0 = lowS n := by
  apply bl_inj
  rw [mixS_yes ⟨h, by omega, by omega⟩, lowS_yes n h]
  exact Mx.mx_zero 0 (bl n)
theorem bits_of_mix {n : ByteArray} {i : Int} (h : mixOk n i) : bitsOf (mixS n i) = i.toNat % Mx.top (lettersOf n) := by
  have e2 : lettersOf n = Mx.cnt (bl n) := if_pos h.1
  rw [bitsOf, if_pos (mixS_ok h), mixS_yes h, Mx.bits_mx, e2]
theorem bits_low {n : ByteArray} (h : Nm.okL (bl n) = true) : bitsOf (mixS n 0) = 0 := by
  rw [bits_of_mix ⟨h, by omega, by omega⟩]
  exact Nat.zero_mod _
theorem pow_mod (k : Nat) (hk : k ≤ 40) : (2 ^ 40 - 1) % 2 ^ k = 2 ^ k - 1 := by
  apply Nat.eq_of_testBit_eq
  intro j
  rw [Nat.testBit_mod_two_pow, Nat.testBit_two_pow_sub_one, Nat.testBit_two_pow_sub_one]
  by_cases hj : j < k
  · simp [hj]; omega
  · simp [hj]
theorem bits_high {n : ByteArray} (h : Nm.okL (bl n) = true) : bitsOf (mixS n 1099511627775) = Mx.top (lettersOf n) - 1 := by
  rw [bits_of_mix ⟨h, by omega, by omega⟩]
  exact pow_mod _ (Nat.min_le_right _ _)
theorem bits_high_big {n : ByteArray} (h : Nm.okL (bl n) = true) (hl : 40 < lettersOf n) : bitsOf (mixS n 1099511627775) = 1099511627775 := by
  rw [bits_high h, Mx.top, Nat.min_eq_right (by omega)]
theorem bits_high_low {n : ByteArray} (h : Nm.okL (bl n) = true) (hl : lettersOf n ≤ 40) : ((bitsOf (mixS n 1099511627775) : Nat) : Int) = wrap64 (wrap64 (2 ^ lettersOf n) - 1) := by
  have hp : 0 < 2 ^ lettersOf n := Nat.two_pow_pos _
  rw [bits_high h, wrap_pow hl, Mx.top_low hl, Int.natCast_sub hp, Int.natCast_pow]
  rfl
theorem high_at {n : ByteArray} (h : Nm.okL (bl n) = true) (p : Nat) (hp : p < (mixS n 1099511627775).size) : ¬ (97 ≤ (mixS n 1099511627775)[p].toNat ∧ (mixS n 1099511627775)[p].toNat ≤ 122) := by
  have hm : mixOk n 1099511627775 := ⟨h, by omega, by omega⟩
  have hmem : (mixS n 1099511627775)[p] ∈ bl (mixS n 1099511627775) := by
    have := List.getElem_mem (l := bl (mixS n 1099511627775)) (n := p) (by rw [bl_length]; exact hp)
    exact this
  rw [mixS_yes hm] at hmem
  have := Mx.mx_high 0 (bl n) _ hmem
  simpa only [Mx.isS, decide_eq_false_iff_not] using this

set_option maxHeartbeats 1600000 in
theorem MixLow_walk (n : ByteArray) (w : World) (hn : n.size ≤ maxLen) :
    Calls Try.prog 6 #[.string n] w fun e w' => e = .returned (.bool true) ∧ Keeps w w' := by
  have hn' := hn
  unfold maxLen at hn'
  by_cases l1 : 600 < (n.size : Int)
  · go_enter Try.func6, Try.ntmps6
    go_wp2_with (go_at_call 7; refine (live3_any _).mono ?_; rintro e w3 ⟨rfl, k3⟩)
    go_ret
    exact ⟨rfl, by assumption⟩
  cases h : Nm.okL (bl n)
  · go_enter Try.func6, Try.ntmps6
    go_wp2_with fail
    refine (refcheck_any _ _ hn).mono ?_
    rintro e wk1 ⟨rfl, k1⟩
    rw [h]
    go_wp2_with fail
    refine (live3_any _).mono ?_
    rintro e wk2 ⟨rfl, k2⟩
    go_wp2
    go_ret
    exact ⟨rfl, k1.trans k2⟩
  have h255 : n.size ≤ 255 := by have := ((Nm.okL_spec _).1 h).1; rw [bl_length] at this; exact this
  have H1 := hide (low_mix h)
  have H2 := hide (bits_low h)
  have H3 := hide (bits_high_big h)
  have H4 := hide (bits_high_low h)
  have H5 := hide (high_at h)
  have s1 : (mixS n 0).size = n.size := mixS_size ⟨h, by omega, by omega⟩
  have s2 : (mixS n 1099511627775).size = n.size := mixS_size ⟨h, by omega, by omega⟩
  have S1 := hide s1
  have S2 := hide s2
  clear s1 s2
  go_enter Try.func6, Try.ntmps6
  go_wp2_with fail
  refine (refcheck_any _ _ hn).mono ?_
  rintro e wk1 ⟨rfl, k1⟩
  rw [h]
  go_wp2_with fail
  refine (mix_any _ _ _ hn).mono ?_
  rintro e wk2 ⟨rfl, k2⟩
  generalize mixS n 0 = L at *
  go_wp2_with fail
  refine (mix_any _ _ _ hn).mono ?_
  rintro e wk3 ⟨rfl, k3⟩
  generalize mixS n 1099511627775 = H at *
  have hL : L.size ≤ maxLen := by rw [S1.out]; exact hn
  have hH : H.size ≤ maxLen := by rw [S2.out]; exact hn
  have hHs : H.size ≤ 255 := by rw [S2.out]; exact h255
  have ne : ((L.size : Int) != (H.size : Int)) = false := by rw [S1.out, S2.out]; simp
  go_wp2
  go_loop [5] (fun j => ∃ p : Nat, p ≤ H.size ∧ j = .int .i64 p) (fun j => H.size - (intOf j).toNat)
  case atStart => exact ⟨0, Nat.zero_le _, rfl⟩
  case round =>
    obtain ⟨p, hp, rfl⟩ := hrel
    by_cases hlt : p < H.size
    · have hns := H5.out p hlt
      have hc := UInt8.toNat_lt H[p]
      by_cases h97 : (97 : Int) ≤ H[p].toNat
      · have h122 : ¬ (H[p].toNat : Int) ≤ 122 := by omega
        clear hns
        go_wp2
        go_round
        case rel => exact ⟨p + 1, by omega, by go_num⟩
        case measure => simp [intOf]; omega
      · clear hns
        go_wp2
        go_round
        case rel => exact ⟨p + 1, by omega, by go_num⟩
        case measure => simp [intOf]; omega
    · by_cases hl : (40 : Int) < (lettersOf n : Nat)
      · have HE := hide (H3.out (by omega))
        go_wp2_with fail
        refine (reflow_any _ _ hn).mono ?_
        rintro e wk4 ⟨rfl, k4⟩
        rw [← H1.out]
        go_wp2_with fail
        refine (bits_any _ _ hL).mono ?_
        rintro e wk5 ⟨rfl, k5⟩
        rw [H2.out]
        go_wp2_with fail
        refine (bits_any _ _ hH).mono ?_
        rintro e wk6 ⟨rfl, k6⟩
        rw [HE.out]
        go_wp2_with fail
        refine (refletters_any _ _ hn).mono ?_
        rintro e wk7 ⟨rfl, k7⟩
        go_wp2_with fail
        refine (live3_any _).mono ?_
        rintro e wk8 ⟨rfl, k8⟩
        go_wp2
        go_ret
        exact ⟨rfl, ((((((k1.trans k2).trans k3).trans k4).trans k5).trans k6).trans k7).trans k8⟩
      · have HE := hide (H4.out (by omega))
        go_wp2_with fail
        refine (reflow_any _ _ hn).mono ?_
        rintro e wk4 ⟨rfl, k4⟩
        rw [← H1.out]
        go_wp2_with fail
        refine (bits_any _ _ hL).mono ?_
        rintro e wk5 ⟨rfl, k5⟩
        rw [H2.out]
        go_wp2_with fail
        refine (bits_any _ _ hH).mono ?_
        rintro e wk6 ⟨rfl, k6⟩
        rw [HE.out]
        go_wp2_with fail
        refine (refletters_any _ _ hn).mono ?_
        rintro e wk7 ⟨rfl, k7⟩
        go_wp2_with fail
        refine (live3_any _).mono ?_
        rintro e wk8 ⟨rfl, k8⟩
        go_wp2
        go_ret
        exact ⟨rfl, ((((((k1.trans k2).trans k3).trans k4).trans k5).trans k6).trans k7).trans k8⟩
end Go.Proofs.Ytncgflnjphhhlaa
