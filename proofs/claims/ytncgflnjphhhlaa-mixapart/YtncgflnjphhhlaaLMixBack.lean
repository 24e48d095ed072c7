/- MixBack answers true, for every input: the walk. -/
import Derived.Test.YtncgflnjphhhlaaMixLive
namespace Go.Proofs.Ytncgflnjphhhlaa
open Go.RowKit

theorem mixS_yes {n : ByteArray} {i : Int} (h : mixOk n i) : bl (mixS n i) = Mx.mx i.toNat 0 (bl n) := by rw [mixS, if_pos h, bl_mk]
theorem mixS_size {n : ByteArray} {i : Int} (h : mixOk n i) : (mixS n i).size = n.size := by rw [← bl_length, mixS_yes h, Mx.mx_length, bl_length]
theorem mixS_pos {n : ByteArray} {i : Int} (h : mixOk n i) : (mixS n i).toList.isEmpty = false := by
  rw [toList_bl, List.isEmpty_eq_false_iff, ← List.length_pos_iff, bl_length, mixS_size h, ← bl_length]
  exact Nm.ok_pos h.1
theorem mixS_ok {n : ByteArray} {i : Int} (h : mixOk n i) : Nm.okL (bl (mixS n i)) = true := by rw [mixS_yes h, Mx.mx_ok]; exact h.1
theorem mixS_same {n : ByteArray} {i : Int} (h : mixOk n i) : Nm.sameB (bl n) (bl (mixS n i)) = true := by
  simp only [Nm.sameB, h.1, mixS_ok h, Bool.and_self, Bool.true_and, beq_iff_eq]
  rw [mixS_yes h, Mx.mx_low]
theorem mixS_letters {n : ByteArray} {i : Int} (h : mixOk n i) : lettersOf (mixS n i) = lettersOf n := by
  rw [lettersOf, lettersOf, if_pos (mixS_ok h), if_pos h.1, mixS_yes h, Mx.mx_cnt]
theorem mixS_of (n : ByteArray) {i : Int} (h : mixOk n i) (j : Int) (hj : 0 ≤ j ∧ j < 1099511627776) : mixS (mixS n i) j = mixS n j := by
  apply bl_inj
  rw [mixS_yes ⟨mixS_ok h, hj⟩, mixS_yes ⟨h.1, hj⟩, mixS_yes h, Mx.mx_of_mx]
theorem mixS_id {n : ByteArray} (h : Nm.okL (bl n) = true) (hl : lettersOf n ≤ 40) : mixS n (bitsOf n : Nat) = n := by
  have e : bitsOf n = Mx.bt 0 (bl n) := if_pos h
  have e2 : lettersOf n = Mx.cnt (bl n) := if_pos h
  have h3 := Nat.lt_of_lt_of_le (Mx.bt_lt (bl n)) (Mx.top_max _)
  apply bl_inj
  rw [mixS_yes ⟨h, by omega, by rw [e]; omega⟩, e, Int.toNat_natCast, Mx.mix_back _ (by omega)]
theorem bitsOf_lt (n : ByteArray) : bitsOf n < 1099511627776 := by
  have h3 := Nat.lt_of_lt_of_le (Mx.bt_lt (bl n)) (Mx.top_max _)
  unfold bitsOf
  split <;> omega
theorem mixS_echo {n : ByteArray} {i : Int} (h : mixOk n i) (hl : lettersOf n ≤ 40) : (Nm.okL (bl n) && (bl n == bl (mixS n i))) = (((bitsOf (mixS n i) : Nat) : Int) == ((bitsOf n : Nat) : Int)) := by
  rw [h.1, Bool.true_and, Bool.eq_iff_iff, beq_iff_eq, beq_iff_eq]
  constructor
  · intro e
    have := bl_inj e
    rw [← this]
  · intro e
    have e1 := mixS_id (mixS_ok h) (by rw [mixS_letters h]; exact hl)
    rw [e, mixS_of n h _ ⟨by omega, by have := bitsOf_lt n; omega⟩, mixS_id h.1 hl] at e1
    rw [← e1]

set_option maxHeartbeats 1600000 in
theorem MixBack_walk (n : ByteArray) (i : Int) (w : World) (hn : n.size ≤ maxLen) (_ : -9223372036854775808 ≤ i ∧ i ≤ 9223372036854775807) :
    Calls Try.prog 4 #[.string n, .int .i64 i] w fun e w' => e = .returned (.bool true) ∧ Keeps w w' := by
  have hn' := hn
  unfold maxLen at hn'
  by_cases l1 : 600 < (n.size : Int)
  · go_enter Try.func4, Try.ntmps4
    go_wp2_with (go_at_call 7; refine (live3_any _).mono ?_; rintro e w3 ⟨rfl, k3⟩)
    go_ret
    exact ⟨rfl, by assumption⟩
  cases h : Nm.okL (bl n)
  · go_enter Try.func4, Try.ntmps4
    go_wp2_with fail
    refine (refcheck_any _ _ hn).mono ?_
    rintro e wk1 ⟨rfl, k1⟩
    rw [h]
    go_wp2_with fail
    refine (live3_any _).mono ?_
    rintro e wk2 ⟨rfl, k2⟩
    go_wp2
    go_ret
    exact ⟨rfl, k1.trans k2⟩
  have HL := hide (mixS_id h)
  have HB0 : Hid (0 ≤ ((bitsOf n : Nat) : Int)) := Int.natCast_nonneg _
  have HB1 : Hid (((bitsOf n : Nat) : Int) < 1099511627776) := by have := bitsOf_lt n; unfold Hid; omega
  by_cases hi : 0 ≤ i ∧ i < 1099511627776
  · have hm : mixOk n i := ⟨h, hi⟩
    have q1 := mixS_pos hm
    have q2 := mixS_same hm
    have q3 := mixS_letters hm
    have q4 := mixS_of n hm i hi
    have q5 := mixS_size hm
    have Q6 := hide (mixS_echo hm)
    have hM : (mixS n i).size ≤ maxLen := by rw [q5]; exact hn
    have d0 : decide (i < 0) = false := decide_eq_false (by omega)
    have d1 : decide (1099511627776 ≤ i) = false := decide_eq_false (by omega)
    clear hi
    have Q3 := hide q3
    have Q4 := hide q4
    clear q3 q4 q5 hm
    generalize hMd : mixS n i = M at *
    have HMd := hide hMd
    clear hMd
    by_cases hl : (40 : Int) < (lettersOf n : Nat)
    · go_enter Try.func4, Try.ntmps4
      go_wp2_with fail
      refine (refcheck_any _ _ hn).mono ?_
      rintro e wk1 ⟨rfl, k1⟩
      rw [h]
      go_wp2_with fail
      refine (mix_any _ _ _ hn).mono ?_
      rintro e wk2 ⟨rfl, k2⟩
      rw [HMd.out]
      go_wp2_with fail
      refine (refsame_any _ _ _ hn hM).mono ?_
      rintro e wk3 ⟨rfl, k3⟩
      rw [q2]
      go_wp2_with fail
      refine (letters_any _ _ hM).mono ?_
      rintro e wk4 ⟨rfl, k4⟩
      rw [Q3.out]
      go_wp2_with fail
      refine (letters_any _ _ hn).mono ?_
      rintro e wk5 ⟨rfl, k5⟩
      go_wp2_with fail
      refine (mix_any _ _ _ hM).mono ?_
      rintro e wk6 ⟨rfl, k6⟩
      rw [Q4.out]
      go_wp2_with fail
      refine (bits_any _ _ hn).mono ?_
      rintro e wk7 ⟨rfl, k7⟩
      generalize hBd : ((bitsOf n : Nat) : Int) = B at *
      have hB0 := HB0.out
      have hB1 := HB1.out
      clear hBd
      go_wp2_with fail
      refine (letters_any _ _ hn).mono ?_
      rintro e wk8 ⟨rfl, k8⟩
      go_wp2_with fail
      refine (live3_any _).mono ?_
      rintro e wk9 ⟨rfl, k9⟩
      go_wp2
      go_ret
      exact ⟨rfl, (((((((k1.trans k2).trans k3).trans k4).trans k5).trans k6).trans k7).trans k8).trans k9⟩
    · have HL2 := hide (HL.out (by omega))
      have HQ6 := hide (Q6.out (by omega))
      clear HL Q6
      cases ht : (Nm.okL (bl n) && (bl n == bl M))
      · have HQ7 := HQ6.out
        rw [ht] at HQ7
        have HQ8 := hide HQ7.symm
        clear HQ7 HQ6
        go_enter Try.func4, Try.ntmps4
        go_wp2_with fail
        refine (refcheck_any _ _ hn).mono ?_
        rintro e wk1 ⟨rfl, k1⟩
        rw [h]
        go_wp2_with fail
        refine (mix_any _ _ _ hn).mono ?_
        rintro e wk2 ⟨rfl, k2⟩
        rw [HMd.out]
        go_wp2_with fail
        refine (refsame_any _ _ _ hn hM).mono ?_
        rintro e wk3 ⟨rfl, k3⟩
        rw [q2]
        go_wp2_with fail
        refine (letters_any _ _ hM).mono ?_
        rintro e wk4 ⟨rfl, k4⟩
        rw [Q3.out]
        go_wp2_with fail
        refine (letters_any _ _ hn).mono ?_
        rintro e wk5 ⟨rfl, k5⟩
        go_wp2_with fail
        refine (mix_any _ _ _ hM).mono ?_
        rintro e wk6 ⟨rfl, k6⟩
        rw [Q4.out]
        go_wp2_with fail
        refine (bits_any _ _ hn).mono ?_
        rintro e wk7 ⟨rfl, k7⟩
        generalize hBd : ((bitsOf n : Nat) : Int) = B at *
        have hB0 := HB0.out
        have hB1 := HB1.out
        clear hBd
        go_wp2_with fail
        refine (letters_any _ _ hn).mono ?_
        rintro e wk8 ⟨rfl, k8⟩
        go_wp2_with fail
        refine (mix_any _ _ _ hn).mono ?_
        rintro e wk9 ⟨rfl, k9⟩
        rw [HL2.out]
        go_wp2_with fail
        refine (echoes_any _ _ _ hn).mono ?_
        rintro e wq ⟨rfl, hw⟩
        subst hw
        rw [ht]
        have HQ9 := HQ8.out
        clear HQ8
        go_wp2_with fail
        refine (bits_any _ _ hM).mono ?_
        rintro e wk10 ⟨rfl, k10⟩
        go_wp2_with fail
        refine (live3_any _).mono ?_
        rintro e wk11 ⟨rfl, k11⟩
        go_wp2
        go_ret
        exact ⟨rfl, (((((((((k1.trans k2).trans k3).trans k4).trans k5).trans k6).trans k7).trans k8).trans k9).trans k10).trans k11⟩
      · have HQ7 := HQ6.out
        rw [ht] at HQ7
        have HQ8 := hide HQ7.symm
        clear HQ7 HQ6
        go_enter Try.func4, Try.ntmps4
        go_wp2_with fail
        refine (refcheck_any _ _ hn).mono ?_
        rintro e wk1 ⟨rfl, k1⟩
        rw [h]
        go_wp2_with fail
        refine (mix_any _ _ _ hn).mono ?_
        rintro e wk2 ⟨rfl, k2⟩
        rw [HMd.out]
        go_wp2_with fail
        refine (refsame_any _ _ _ hn hM).mono ?_
        rintro e wk3 ⟨rfl, k3⟩
        rw [q2]
        go_wp2_with fail
        refine (letters_any _ _ hM).mono ?_
        rintro e wk4 ⟨rfl, k4⟩
        rw [Q3.out]
        go_wp2_with fail
        refine (letters_any _ _ hn).mono ?_
        rintro e wk5 ⟨rfl, k5⟩
        go_wp2_with fail
        refine (mix_any _ _ _ hM).mono ?_
        rintro e wk6 ⟨rfl, k6⟩
        rw [Q4.out]
        go_wp2_with fail
        refine (bits_any _ _ hn).mono ?_
        rintro e wk7 ⟨rfl, k7⟩
        generalize hBd : ((bitsOf n : Nat) : Int) = B at *
        have hB0 := HB0.out
        have hB1 := HB1.out
        clear hBd
        go_wp2_with fail
        refine (letters_any _ _ hn).mono ?_
        rintro e wk8 ⟨rfl, k8⟩
        go_wp2_with fail
        refine (mix_any _ _ _ hn).mono ?_
        rintro e wk9 ⟨rfl, k9⟩
        rw [HL2.out]
        go_wp2_with fail
        refine (echoes_any _ _ _ hn).mono ?_
        rintro e wq ⟨rfl, hw⟩
        subst hw
        rw [ht]
        have HQ9 := HQ8.out
        clear HQ8
        go_wp2_with fail
        refine (bits_any _ _ hM).mono ?_
        rintro e wk10 ⟨rfl, k10⟩
        go_wp2_with fail
        refine (live3_any _).mono ?_
        rintro e wk11 ⟨rfl, k11⟩
        go_wp2
        go_ret
        exact ⟨rfl, (((((((((k1.trans k2).trans k3).trans k4).trans k5).trans k6).trans k7).trans k8).trans k9).trans k10).trans k11⟩
  · have HM : Hid (mixS n i = ⟨#[]⟩) := if_neg (fun x => hi x.2)
    by_cases hl : (40 : Int) < (lettersOf n : Nat)
    · by_cases hi0 : i < 0
      · clear hi
        go_enter Try.func4, Try.ntmps4
        go_wp2_with fail
        refine (refcheck_any _ _ hn).mono ?_
        rintro e wk1 ⟨rfl, k1⟩
        rw [h]
        go_wp2_with fail
        refine (mix_any _ _ _ hn).mono ?_
        rintro e wk2 ⟨rfl, k2⟩
        rw [HM.out]
        go_wp2_with fail
        refine (bits_any _ _ hn).mono ?_
        rintro e wk7 ⟨rfl, k7⟩
        generalize hBd : ((bitsOf n : Nat) : Int) = B at *
        have hB0 := HB0.out
        have hB1 := HB1.out
        clear hBd
        go_wp2_with fail
        refine (letters_any _ _ hn).mono ?_
        rintro e wk8 ⟨rfl, k8⟩
        go_wp2_with fail
        refine (live3_any _).mono ?_
        rintro e wk9 ⟨rfl, k9⟩
        go_wp2
        go_ret
        exact ⟨rfl, (((k1.trans k2).trans k7).trans k8).trans k9⟩
      · have hi1 : 1099511627776 ≤ i := by omega
        clear hi
        go_enter Try.func4, Try.ntmps4
        go_wp2_with fail
        refine (refcheck_any _ _ hn).mono ?_
        rintro e wk1 ⟨rfl, k1⟩
        rw [h]
        go_wp2_with fail
        refine (mix_any _ _ _ hn).mono ?_
        rintro e wk2 ⟨rfl, k2⟩
        rw [HM.out]
        go_wp2_with fail
        refine (bits_any _ _ hn).mono ?_
        rintro e wk7 ⟨rfl, k7⟩
        generalize hBd : ((bitsOf n : Nat) : Int) = B at *
        have hB0 := HB0.out
        have hB1 := HB1.out
        clear hBd
        go_wp2_with fail
        refine (letters_any _ _ hn).mono ?_
        rintro e wk8 ⟨rfl, k8⟩
        go_wp2_with fail
        refine (live3_any _).mono ?_
        rintro e wk9 ⟨rfl, k9⟩
        go_wp2
        go_ret
        exact ⟨rfl, (((k1.trans k2).trans k7).trans k8).trans k9⟩
    · have HL2 := hide (HL.out (by omega))
      clear HL
      by_cases hi0 : i < 0
      · clear hi
        go_enter Try.func4, Try.ntmps4
        go_wp2_with fail
        refine (refcheck_any _ _ hn).mono ?_
        rintro e wk1 ⟨rfl, k1⟩
        rw [h]
        go_wp2_with fail
        refine (mix_any _ _ _ hn).mono ?_
        rintro e wk2 ⟨rfl, k2⟩
        rw [HM.out]
        go_wp2_with fail
        refine (bits_any _ _ hn).mono ?_
        rintro e wk7 ⟨rfl, k7⟩
        generalize hBd : ((bitsOf n : Nat) : Int) = B at *
        have hB0 := HB0.out
        have hB1 := HB1.out
        clear hBd
        go_wp2_with fail
        refine (letters_any _ _ hn).mono ?_
        rintro e wk8 ⟨rfl, k8⟩
        go_wp2_with fail
        refine (mix_any _ _ _ hn).mono ?_
        rintro e wk10 ⟨rfl, k10⟩
        rw [HL2.out]
        go_wp2_with fail
        refine (live3_any _).mono ?_
        rintro e wk9 ⟨rfl, k9⟩
        go_wp2
        go_ret
        exact ⟨rfl, ((((k1.trans k2).trans k7).trans k8).trans k10).trans k9⟩
      · have hi1 : 1099511627776 ≤ i := by omega
        clear hi
        go_enter Try.func4, Try.ntmps4
        go_wp2_with fail
        refine (refcheck_any _ _ hn).mono ?_
        rintro e wk1 ⟨rfl, k1⟩
        rw [h]
        go_wp2_with fail
        refine (mix_any _ _ _ hn).mono ?_
        rintro e wk2 ⟨rfl, k2⟩
        rw [HM.out]
        go_wp2_with fail
        refine (bits_any _ _ hn).mono ?_
        rintro e wk7 ⟨rfl, k7⟩
        generalize hBd : ((bitsOf n : Nat) : Int) = B at *
        have hB0 := HB0.out
        have hB1 := HB1.out
        clear hBd
        go_wp2_with fail
        refine (letters_any _ _ hn).mono ?_
        rintro e wk8 ⟨rfl, k8⟩
        go_wp2_with fail
        refine (mix_any _ _ _ hn).mono ?_
        rintro e wk10 ⟨rfl, k10⟩
        rw [HL2.out]
        go_wp2_with fail
        refine (live3_any _).mono ?_
        rintro e wk9 ⟨rfl, k9⟩
        go_wp2
        go_ret
        exact ⟨rfl, ((((k1.trans k2).trans k7).trans k8).trans k10).trans k9⟩
end Go.Proofs.Ytncgflnjphhhlaa
