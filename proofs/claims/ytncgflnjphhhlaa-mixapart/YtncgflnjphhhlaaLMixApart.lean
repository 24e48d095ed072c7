/- MixApart answers true, for every input: the walk. -/
import Derived.Test.YtncgflnjphhhlaaLMixBack
namespace Go.Proofs.Ytncgflnjphhhlaa
open Go.RowKit

theorem mixS_eq {n : ByteArray} {a b : Int} (ha : mixOk n a) (hb : mixOk n b) : ((mixS n a).toList == (mixS n b).toList) = (a % (Mx.top (lettersOf n) : Nat) == b % (Mx.top (lettersOf n) : Nat)) := by
  have e2 : lettersOf n = Mx.cnt (bl n) := if_pos ha.1
  obtain ⟨x, hx⟩ := Int.eq_ofNat_of_zero_le ha.2.1
  obtain ⟨y, hy⟩ := Int.eq_ofNat_of_zero_le hb.2.1
  rw [toList_bl, toList_bl, mixS_yes ha, mixS_yes hb, Bool.eq_iff_iff, beq_iff_eq, beq_iff_eq, Mx.mx_apart, e2, hx, hy]
  simp only [Int.toNat_natCast]
  constructor
  · intro h
    exact_mod_cast h
  · intro h
    exact_mod_cast h
theorem and_mask {a : Int} (k : Nat) (hk : k ≤ 40) (h0 : 0 ≤ a) (h1 : a < 1099511627776) : bits .and .i64 a (2 ^ k - 1) = a % 2 ^ k :=
  bits_mask .i64 63 (by decide) wraps63 k (by omega) a h0 (by omega)
theorem apart_big {n : ByteArray} {a b : Int} (ha : mixOk n a) (hb : mixOk n b) (hl : 40 < lettersOf n) : (bits .and .i64 a 1099511627775 == bits .and .i64 b 1099511627775) = ((mixS n a).toList == (mixS n b).toList) := by
  have e1 := and_mask 40 (by omega) ha.2.1 ha.2.2
  have e2 := and_mask 40 (by omega) hb.2.1 hb.2.2
  rw [show (2 : Int) ^ 40 - 1 = 1099511627775 from by decide] at e1 e2
  have e3 : Mx.top (lettersOf n) = 1099511627776 := by unfold Mx.top; rw [Nat.min_eq_right (by omega)]
  rw [mixS_eq ha hb, e1, e2, e3]
  rfl
theorem wrap_pow {k : Nat} (hk : k ≤ 40) : wrap64 (wrap64 (2 ^ k) - 1) = 2 ^ k - 1 := by
  have h1 : 2 ^ k ≤ 2 ^ 40 := Nat.pow_le_pow_right (by omega) (by omega)
  have e1 : ((2 : Int) ^ k) = ((2 ^ k : Nat) : Int) := by rw [Int.natCast_pow]; rfl
  rw [e1]
  generalize 2 ^ k = q at *
  unfold wrap64
  omega
theorem apart_low {n : ByteArray} {a b : Int} (ha : mixOk n a) (hb : mixOk n b) (hl : lettersOf n ≤ 40) : (bits .and .i64 a (wrap64 (wrap64 (2 ^ lettersOf n) - 1)) == bits .and .i64 b (wrap64 (wrap64 (2 ^ lettersOf n) - 1))) = ((mixS n a).toList == (mixS n b).toList) := by
  have e1 := and_mask _ hl ha.2.1 ha.2.2
  have e2 := and_mask _ hl hb.2.1 hb.2.2
  rw [mixS_eq ha hb, wrap_pow hl, e1, e2, Mx.top_low hl, Int.natCast_pow]
  rfl

set_option maxHeartbeats 1600000 in
theorem MixApart_walk (n : ByteArray) (a b : Int) (w : World) (hn : n.size ≤ maxLen) (_ : -9223372036854775808 ≤ a ∧ a ≤ 9223372036854775807) (_ : -9223372036854775808 ≤ b ∧ b ≤ 9223372036854775807) :
    Calls Try.prog 5 #[.string n, .int .i64 a, .int .i64 b] w fun e w' => e = .returned (.bool true) ∧ Keeps w w' := by
  have hn' := hn
  unfold maxLen at hn'
  by_cases l1 : 600 < (n.size : Int)
  · go_enter Try.func5, Try.ntmps5
    go_wp2_with (go_at_call 7; refine (live3_any _).mono ?_; rintro e w3 ⟨rfl, k3⟩)
    go_ret
    exact ⟨rfl, by assumption⟩
  cases h : Nm.okL (bl n)
  · go_enter Try.func5, Try.ntmps5
    go_wp2_with fail
    refine (refcheck_any _ _ hn).mono ?_
    rintro e wk1 ⟨rfl, k1⟩
    rw [h]
    go_wp2_with fail
    refine (live3_any _).mono ?_
    rintro e wk2 ⟨rfl, k2⟩
    go_wp2
    go_ret
    exact ⟨rfl, k1.trans k2⟩
  by_cases a0 : a < 0
  · go_enter Try.func5, Try.ntmps5
    go_wp2_with fail
    refine (refcheck_any _ _ hn).mono ?_
    rintro e wk1 ⟨rfl, k1⟩
    rw [h]
    go_wp2_with fail
    refine (live3_any _).mono ?_
    rintro e wk2 ⟨rfl, k2⟩
    go_wp2
    go_ret
    exact ⟨rfl, k1.trans k2⟩
  have da0 : decide (a < 0) = false := decide_eq_false a0
  by_cases b0 : b < 0
  · go_enter Try.func5, Try.ntmps5
    go_wp2_with fail
    refine (refcheck_any _ _ hn).mono ?_
    rintro e wk1 ⟨rfl, k1⟩
    rw [h]
    go_wp2_with fail
    refine (live3_any _).mono ?_
    rintro e wk2 ⟨rfl, k2⟩
    go_wp2
    go_ret
    exact ⟨rfl, k1.trans k2⟩
  have db0 : decide (b < 0) = false := decide_eq_false b0
  by_cases a1 : 1099511627776 ≤ a
  · clear a0 b0
    go_enter Try.func5, Try.ntmps5
    go_wp2_with fail
    refine (refcheck_any _ _ hn).mono ?_
    rintro e wk1 ⟨rfl, k1⟩
    rw [h]
    go_wp2_with fail
    refine (live3_any _).mono ?_
    rintro e wk2 ⟨rfl, k2⟩
    go_wp2
    go_ret
    exact ⟨rfl, k1.trans k2⟩
  have da1 : decide (1099511627776 ≤ a) = false := decide_eq_false a1
  by_cases b1 : 1099511627776 ≤ b
  · clear a0 b0 a1
    go_enter Try.func5, Try.ntmps5
    go_wp2_with fail
    refine (refcheck_any _ _ hn).mono ?_
    rintro e wk1 ⟨rfl, k1⟩
    rw [h]
    go_wp2_with fail
    refine (live3_any _).mono ?_
    rintro e wk2 ⟨rfl, k2⟩
    go_wp2
    go_ret
    exact ⟨rfl, k1.trans k2⟩
  have db1 : decide (1099511627776 ≤ b) = false := decide_eq_false b1
  have ma : mixOk n a := ⟨h, by omega, by omega⟩
  have mb : mixOk n b := ⟨h, by omega, by omega⟩
  clear a0 b0 a1 b1
  by_cases hl : (40 : Int) < (lettersOf n : Nat)
  · have HA := hide (apart_big ma mb (by omega))
    clear ma mb
    go_enter Try.func5, Try.ntmps5
    go_wp2_with fail
    refine (refcheck_any _ _ hn).mono ?_
    rintro e wk1 ⟨rfl, k1⟩
    rw [h]
    go_wp2_with fail
    refine (letters_any _ _ hn).mono ?_
    rintro e wk2 ⟨rfl, k2⟩
    go_wp2_with fail
    go_region
    rw [HA.out]
    go_wp2_with fail
    refine (mix_any _ _ _ hn).mono ?_
    rintro e wk3 ⟨rfl, k3⟩
    go_wp2_with fail
    refine (mix_any _ _ _ hn).mono ?_
    rintro e wk4 ⟨rfl, k4⟩
    go_wp2_with fail
    refine (live3_any _).mono ?_
    rintro e wk5 ⟨rfl, k5⟩
    go_wp2
    go_ret
    exact ⟨rfl, ((((k1.trans k2).drew).trans k3).trans k4).trans k5⟩
  · have HA := hide (apart_low ma mb (by omega))
    clear ma mb
    go_enter Try.func5, Try.ntmps5
    go_wp2_with fail
    refine (refcheck_any _ _ hn).mono ?_
    rintro e wk1 ⟨rfl, k1⟩
    rw [h]
    go_wp2_with fail
    refine (letters_any _ _ hn).mono ?_
    rintro e wk2 ⟨rfl, k2⟩
    go_wp2_with fail
    go_region
    rw [HA.out]
    go_wp2_with fail
    refine (mix_any _ _ _ hn).mono ?_
    rintro e wk3 ⟨rfl, k3⟩
    go_wp2_with fail
    refine (mix_any _ _ _ hn).mono ?_
    rintro e wk4 ⟨rfl, k4⟩
    go_wp2_with fail
    refine (live3_any _).mono ?_
    rintro e wk5 ⟨rfl, k5⟩
    go_wp2
    go_ret
    exact ⟨rfl, ((((k1.trans k2).drew).trans k3).trans k4).trans k5⟩
end Go.Proofs.Ytncgflnjphhhlaa
