/- What the document's letter, Letters, Bits, Mix, Echoes of layer 3 answer, for every input. -/
import Derived.Test.YtncgflnjphhhlaaMixWalk2
import Derived.Test.YtncgflnjphhhlaaNameRef1
namespace Go.Proofs.Ytncgflnjphhhlaa
open Go.RowKit

theorem letter_any (c : UInt8) (w : World) : Calls Try.prog 21 #[.int .u8 (c.toNat : Int)] w fun e w' => e = .returned (.bool (Mx.isL c)) ∧ w' = w := by
  have hc := UInt8.toNat_lt c
  have HE : Hid (Mx.isL c = decide ((65 ≤ c.toNat ∧ c.toNat ≤ 90) ∨ (97 ≤ c.toNat ∧ c.toNat ≤ 122))) := by
    unfold Hid
    simp only [Mx.isL, Mx.isG, Mx.isS, Bool.decide_or]
  rcases (show (c.toNat : Int) < 65 ∨ ((65 : Int) ≤ c.toNat ∧ (c.toNat : Int) ≤ 90) ∨ ((90 : Int) < c.toNat ∧ (c.toNat : Int) < 97) ∨ ((97 : Int) ≤ c.toNat ∧ (c.toNat : Int) ≤ 122) ∨ (122 : Int) < c.toNat by omega) with h | ⟨h, g⟩ | ⟨h, g⟩ | ⟨h, g⟩ | h
  all_goals
    go_enter Try.func21, Try.ntmps21
    go_wp2
    go_ret
    exact ⟨ret_bool (by rw [HE.out, Bool.eq_iff_iff]; simp only [decide_eq_true_eq, Bool.false_eq_true, true_iff, false_iff, Bool.or_eq_true]; omega), rfl⟩

theorem add_pow {k x : Nat} (hk : k < 40) (hx : x < 2 ^ 40) : wrap64 ((x : Int) + wrap64 (2 ^ k)) = ((x + 2 ^ k : Nat) : Int) := by
  have h1 : 2 ^ k ≤ 2 ^ 40 := Nat.pow_le_pow_right (by omega) (by omega)
  have e1 : ((2 : Int) ^ k) = ((2 ^ k : Nat) : Int) := by rw [Int.natCast_pow]; rfl
  rw [e1]
  generalize 2 ^ k = q at *
  unfold wrap64
  omega

set_option maxHeartbeats 400000 in
theorem refletters_any (n : ByteArray) (w : World) (hn : n.size ≤ maxLen) :
    Calls Try.prog 9 #[.string n] w fun e w' => e = .returned (.int .i64 (lettersOf n : Nat)) ∧ Keeps w w' := by
  by_cases h : Nm.okL (bl n) = true
  · have h255 : n.size ≤ 255 := by have := ((Nm.okL_spec _).1 h).1; rw [bl_length] at this; exact this
    go_enter Try.func9, Try.ntmps9
    go_wp2
    go_loopw [3, 4] (fun k i wr => ∃ p : Nat, p ≤ n.size ∧ i = .int .i64 p ∧ k = .int .i64 (upto n p : Nat) ∧ Keeps w wr) (fun _ i _ => n.size - (intOf i).toNat)
    case atStart => exact ⟨0, Nat.zero_le _, rfl, rfl, Keeps.refl _⟩
    case round =>
      obtain ⟨p, hp, rfl, rfl, hk⟩ := hrel
      have hul := upto_le n p
      by_cases hlt : p < n.size
      · have hus := upto_succ n p hlt
        go_wp2_with fail
        refine (refcheck_any _ _ hn).mono ?_
        rintro e w1 ⟨rfl, k1⟩
        rw [h]
        by_cases hL : Mx.isL n[p] = true
        · rw [if_pos hL] at hus
          have HU := hide hus
          clear hus
          go_wp2_with (go_at_call 21; refine (letter_any _ _).mono ?_; rintro e w' ⟨rfl, rfl⟩)
          go_roundw
          case rel => exact ⟨p + 1, by omega, by go_num, by rw [HU.out]; go_num, hk.trans k1⟩
          case measure => simp [intOf]; omega
        · rw [if_neg hL] at hus
          have HU := hide hus
          clear hus
          simp only [Bool.not_eq_true] at hL
          go_wp2_with (go_at_call 21; refine (letter_any _ _).mono ?_; rintro e w' ⟨rfl, rfl⟩)
          go_roundw
          case rel => exact ⟨p + 1, by omega, by go_num, by rw [HU.out]; rfl, hk.trans k1⟩
          case measure => simp [intOf]; omega
      · obtain rfl : p = n.size := by omega
        have HF : Hid (lettersOf n = upto n n.size) := by
          unfold Hid lettersOf upto
          rw [if_pos h, List.take_of_length_le (by rw [bl_length]; exact Nat.le_refl _)]
        go_wp2
        go_ret
        exact ⟨by rw [HF.out]; rfl, hk⟩
  · have HF : Hid (lettersOf n = 0) := by simp [Hid, lettersOf, h]
    simp only [Bool.not_eq_true] at h
    go_enter Try.func9, Try.ntmps9
    go_wp2
    refine wp_loop_rounds 1 ?_
    rw [rounds_succ]
    by_cases h0 : (0 : Int) < n.size
    · go_wp2_with fail
      refine (refcheck_any _ _ hn).mono ?_
      rintro e w1 ⟨rfl, k1⟩
      rw [h]
      go_wp2
      go_ret
      exact ⟨by rw [HF.out]; rfl, k1⟩
    · go_wp2
      go_ret
      exact ⟨by rw [HF.out]; rfl, Keeps.refl _⟩

set_option maxHeartbeats 600000 in
theorem refbits_any (n : ByteArray) (w : World) (hn : n.size ≤ maxLen) :
    Calls Try.prog 13 #[.string n] w fun e w' => e = .returned (.int .i64 (bitsOf n : Nat)) ∧ Keeps w w' := by
  by_cases h : Nm.okL (bl n) = true
  · have h255 : n.size ≤ 255 := by have := ((Nm.okL_spec _).1 h).1; rw [bl_length] at this; exact this
    go_enter Try.func13, Try.ntmps13
    go_wp2
    go_loopw [3, 4, 5] (fun b k i wr => ∃ p : Nat, p ≤ n.size ∧ i = .int .i64 p ∧ k = .int .i64 (upto n p : Nat) ∧ b = .int .i64 (btUpto n p : Nat) ∧ Keeps w wr) (fun _ _ i _ => n.size - (intOf i).toNat)
    case atStart => exact ⟨0, Nat.zero_le _, rfl, rfl, rfl, Keeps.refl _⟩
    case round =>
      obtain ⟨p, hp, rfl, rfl, rfl, hk⟩ := hrel
      have hul := upto_le n p
      by_cases hlt : p < n.size
      · have hus := upto_succ n p hlt
        have hbs := btUpto_succ n p hlt
        have hc := UInt8.toNat_lt n[p]
        go_wp2_with fail
        refine (refcheck_any _ _ hn).mono ?_
        rintro e w1 ⟨rfl, k1⟩
        rw [h]
        by_cases hL : Mx.isL n[p] = true
        · rw [if_pos hL] at hus hbs
          have HU := hide hus
          by_cases h40 : (upto n p : Int) < 40
          · by_cases hZ : (n[p].toNat : Int) ≤ 90
            · have hG : Mx.isG n[p] = true := by
                simp only [Mx.isL, Mx.isG, Mx.isS, Bool.or_eq_true, decide_eq_true_eq] at hL ⊢
                omega
              have HB : Hid (btUpto n (p + 1) = btUpto n p + 2 ^ upto n p) := by
                unfold Hid; rw [hbs, Mx.btB, if_pos ⟨by omega, hG⟩]
              have HX := hide (add_pow (k := upto n p) (by omega) (btUpto_max n p))
              clear hus hbs hG
              go_wp2_with (go_at_call 21; refine (letter_any _ _).mono ?_; rintro e w' ⟨rfl, rfl⟩)
              go_roundw
              case rel => exact ⟨p + 1, by omega, by go_num, by rw [HU.out]; go_num, by rw [HB.out, HX.out], hk.trans k1⟩
              case measure => simp [intOf]; omega
            · have hG : Mx.isG n[p] = false := by
                simp only [Mx.isG, decide_eq_false_iff_not]
                omega
              have HB : Hid (btUpto n (p + 1) = btUpto n p) := by
                unfold Hid; rw [hbs, Mx.btB, if_neg (by rw [hG]; simp)]; rfl
              clear hus hbs hG
              go_wp2_with (go_at_call 21; refine (letter_any _ _).mono ?_; rintro e w' ⟨rfl, rfl⟩)
              go_roundw
              case rel => exact ⟨p + 1, by omega, by go_num, by rw [HU.out]; go_num, by rw [HB.out], hk.trans k1⟩
              case measure => simp [intOf]; omega
          · have HB : Hid (btUpto n (p + 1) = btUpto n p) := by
              unfold Hid; rw [hbs, Mx.btB, if_neg (by omega)]; rfl
            clear hus hbs
            go_wp2_with (go_at_call 21; refine (letter_any _ _).mono ?_; rintro e w' ⟨rfl, rfl⟩)
            go_roundw
            case rel => exact ⟨p + 1, by omega, by go_num, by rw [HU.out]; go_num, by rw [HB.out], hk.trans k1⟩
            case measure => simp [intOf]; omega
        · rw [if_neg hL] at hus hbs
          have HU := hide hus
          have HB := hide hbs
          clear hus hbs
          simp only [Bool.not_eq_true] at hL
          go_wp2_with (go_at_call 21; refine (letter_any _ _).mono ?_; rintro e w' ⟨rfl, rfl⟩)
          go_roundw
          case rel => exact ⟨p + 1, by omega, by go_num, by rw [HU.out]; rfl, by rw [HB.out]; rfl, hk.trans k1⟩
          case measure => simp [intOf]; omega
      · obtain rfl : p = n.size := by omega
        have HF : Hid (bitsOf n = btUpto n n.size) := by
          unfold Hid bitsOf btUpto
          rw [if_pos h, List.take_of_length_le (by rw [bl_length]; exact Nat.le_refl _)]
        go_wp2
        go_ret
        exact ⟨by rw [HF.out]; rfl, hk⟩
  · have HF : Hid (bitsOf n = 0) := by simp [Hid, bitsOf, h]
    simp only [Bool.not_eq_true] at h
    go_enter Try.func13, Try.ntmps13
    go_wp2
    refine wp_loop_rounds 1 ?_
    rw [rounds_succ]
    by_cases h0 : (0 : Int) < n.size
    · go_wp2_with fail
      refine (refcheck_any _ _ hn).mono ?_
      rintro e w1 ⟨rfl, k1⟩
      rw [h]
      go_wp2
      go_ret
      exact ⟨by rw [HF.out]; rfl, k1⟩
    · go_wp2
      go_ret
      exact ⟨by rw [HF.out]; rfl, Keeps.refl _⟩

set_option maxHeartbeats 800000 in
theorem refmix_yes (n : ByteArray) (i : Int) (b : Nat) (w : World) (hn : n.size ≤ maxLen) (h : Nm.okL (bl n) = true) (hb0 : 0 ≤ i) (hb1 : i < 1099511627776) (hb2 : Hid (i = b)) :
    Calls Try.prog 11 #[.string n, .int .i64 i] w fun e w' => e = .returned (.string ⟨(Mx.mx b 0 (bl n)).toArray⟩) ∧ Keeps w w' := by
  have hcv2 := fun w n => run_bytes_of_string (P := Try.prog) w 9 34 5 n Try.underlying9 Try.underlying34 Try.underlying5
  have h255 : n.size ≤ 255 := by have := ((Nm.okL_spec _).1 h).1; rw [bl_length] at this; exact this
  go_enter Try.func11, Try.ntmps11
  go_wp2_with fail
  refine (refcheck_any _ _ hn).mono ?_
  rintro e w0 ⟨rfl, k0⟩
  rw [h]
  go_wp2_with fail
  refine (small_any _ _ hn).mono ?_
  rintro e w1 ⟨rfl, k1⟩
  have K := k0.trans k1
  have hsz := K.size
  clear k0 k1
  have hX1 : bl (⟨(Nm.lowL (bl n)).toArray⟩ : ByteArray) = Nm.lowL (bl n) := bl_mk _
  have hX2 : (⟨(Nm.lowL (bl n)).toArray⟩ : ByteArray).size = n.size := by rw [← bl_length, hX1, Nm.lowL_length, bl_length]
  have HX1 := hide hX1
  have HX2 := hide hX2
  clear hX1 hX2
  generalize (⟨(Nm.lowL (bl n)).toArray⟩ : ByteArray) = X at *
  go_wp2
  clear hcv2
  generalize hcap : grownCap w1 X.size 0 5 = cap at *
  have hr1 := Row.made w1 X cap
  rw [show X.data.toList = mhalf b (bl n) 0 by rw [mhalf_zero, ← HX1.out]; rfl] at hr1
  generalize hwa : (w1.alloc (.cells (bytesRow X cap) 5 ((bytesRow X cap).size, (bytesRow X cap).size + 1))) = wa at *
  have hba : Below w1.heap.size w1 wa := by rw [← hwa]; exact (Below.refl _ _).alloc (Nat.le_refl _) _
  have hbw : Below w.heap.size w wa := K.trans hba
  have hb : b < 2 ^ 40 := by have := hb2.out; omega
  have HBT : Hid (∀ k, (bits .and .i64 (i / 2 ^ (k % 40)) 1 == 1) = b.testBit (k % 40)) := fun k => by rw [hb2.out]; exact bit_test b (k % 40) hb
  clear hwa hcap hba hb
  go_loopw [6, 7] (fun k j wr => ∃ p : Nat, p ≤ n.size ∧ j = .int .i64 p ∧ k = .int .i64 (upto n p : Nat) ∧ Row wr w1.heap.size (mhalf b (bl n) p) ∧ Below w.heap.size w wr) (fun _ j _ => n.size - (intOf j).toNat)
  case atStart => exact ⟨0, Nat.zero_le _, rfl, rfl, hr1.drew, hbw.drew⟩
  case round =>
    obtain ⟨p, hp, rfl, rfl, hR, hB⟩ := hrel
    have hul := upto_le n p
    by_cases hlt : p < n.size
    · have hpX : p < X.size := by rw [HX2.out]; exact hlt
      have hus := upto_succ n p hlt
      have hp' : p < (bl n).length := by rw [bl_length]; exact hlt
      have hp2 : p < (mhalf b (bl n) p).length := by rw [mhalf_length]; exact hp'
      have hg : (mhalf b (bl n) p)[p] = Nm.lowB (n[p]'hlt) := mhalf_get b (bl n) p hp'
      have hcell : wr.cell? ⟨w1.heap.size, p, none⟩ = some (.int .u8 ((Nm.lowB (n[p]'hlt)).toNat : Int)) := by rw [hR.cell p hp2, hg]; rfl
      have hfree := hR.free p hp2
      have hc := UInt8.toNat_lt (Nm.lowB (n[p]'hlt))
      have hll := Mx.low_L (n[p]'hlt)
      by_cases hL : Mx.isL (n[p]'hlt) = true
      · have hL2 : Mx.isL (bl n)[p] = true := hL
        have hlo := Mx.low_of_L hL
        simp only [hL, if_true] at hus
        have HU := hide hus
        have ht := HBT.out (upto n p)
        rw [hL] at hll
        by_cases hbit : b.testBit (upto n p % 40) = true
        · rw [hbit] at ht
          have HR : Hid (Row (wr.setCell ⟨w1.heap.size, p, none⟩ (.int .u8 (((Nm.lowB (n[p]'hlt)).toNat : Int) - 32))) w1.heap.size (mhalf b (bl n) (p + 1))) := by
            have := hR.set p (Nm.lowB (n[p]'hlt) - 32) hp2
            rw [mhalf_set b (bl n) p hp' _ (by rw [if_pos hL2, Mx.mxB]; exact (if_pos hbit).symm)] at this
            unfold Hid
            rw [show Value.int .u8 (((Nm.lowB (n[p]'hlt)).toNat : Int) - 32) = bv (Nm.lowB (n[p]'hlt) - 32) by unfold bv; rw [Mx.sub32 (by omega)]; congr 1; omega]
            exact this
          have hB2 := hB.setCell (p := ⟨w1.heap.size, p, none⟩) (by exact hsz) (.int .u8 (((Nm.lowB (n[p]'hlt)).toNat : Int) - 32))
          have HB2 := hide hB2
          clear hus hR hB hB2 hg hbit hL hL2
          generalize Nm.lowB (n[p]'hlt) = c at *
          go_wp2_with (go_at_call 21; refine (letter_any _ _).mono ?_; rintro e w' ⟨rfl, rfl⟩)
          go_roundw
          case rel => exact ⟨p + 1, by omega, by go_num, by rw [HU.out]; go_num, HR.out, HB2.out⟩
          case measure => simp [intOf]; omega
        · simp only [Bool.not_eq_true] at hbit
          rw [hbit] at ht
          have HR : Hid (Row wr w1.heap.size (mhalf b (bl n) (p + 1))) := by
            unfold Hid
            rw [mhalf_stay b (bl n) p hp' (by rw [if_pos hL2, Mx.mxB, if_neg (by rw [show Mx.cnt ((bl n).take p) = upto n p from rfl, hbit]; decide)])]
            exact hR
          clear hus hR hg hbit hL hL2
          generalize Nm.lowB (n[p]'hlt) = c at *
          go_wp2_with (go_at_call 21; refine (letter_any _ _).mono ?_; rintro e w' ⟨rfl, rfl⟩)
          go_roundw
          case rel => exact ⟨p + 1, by omega, by go_num, by rw [HU.out]; go_num, HR.out, hB⟩
          case measure => simp [intOf]; omega
      · have hL2 : ¬ Mx.isL (bl n)[p] = true := hL
        have HR : Hid (Row wr w1.heap.size (mhalf b (bl n) (p + 1))) := by
          unfold Hid
          rw [mhalf_stay b (bl n) p hp' (by rw [if_neg hL2]; exact Mx.low_of_not hL2)]
          exact hR
        simp only [hL, Bool.false_eq_true, if_false] at hus
        have HU := hide hus
        simp only [Bool.not_eq_true] at hL
        rw [hL] at hll
        clear hus hR hg hL hL2
        generalize Nm.lowB (n[p]'hlt) = c at *
        go_wp2_with (go_at_call 21; refine (letter_any _ _).mono ?_; rintro e w' ⟨rfl, rfl⟩)
        go_roundw
        case rel => exact ⟨p + 1, by omega, by go_num, by rw [HU.out]; rfl, HR.out, hB⟩
        case measure => simp [intOf]; omega
    · obtain rfl : p = n.size := by omega
      have hnX : ¬ n.size < X.size := by rw [HX2.out]; omega
      have HF : Hid (mhalf b (bl n) n.size = Mx.mx b 0 (bl n)) := by unfold Hid; rw [← bl_length, mhalf_all]
      have hcc := hR.conv X.size cap (by rw [mhalf_length, bl_length, HX2.out])
      clear hR
      go_wp2
      go_ret
      exact ⟨by rw [← HF.out]; rfl, hB⟩

theorem refmix_any (n : ByteArray) (i : Int) (w : World) (hn : n.size ≤ maxLen) :
    Calls Try.prog 11 #[.string n, .int .i64 i] w fun e w' => e = .returned (.string (mixS n i)) ∧ Keeps w w' := by
  by_cases h : Nm.okL (bl n) = true
  · by_cases h0 : i < 0
    · have HF : Hid (mixS n i = ⟨#[]⟩) := if_neg (by unfold mixOk; omega)
      go_enter Try.func11, Try.ntmps11
      go_wp2_with fail
      refine (refcheck_any _ _ hn).mono ?_
      rintro e w0 ⟨rfl, k0⟩
      rw [h]
      go_wp2
      go_ret
      exact ⟨by rw [HF.out]; rfl, k0⟩
    · by_cases h1 : 1099511627776 ≤ i
      · have HF : Hid (mixS n i = ⟨#[]⟩) := if_neg (by unfold mixOk; omega)
        go_enter Try.func11, Try.ntmps11
        go_wp2_with fail
        refine (refcheck_any _ _ hn).mono ?_
        rintro e w0 ⟨rfl, k0⟩
        rw [h]
        go_wp2
        go_ret
        exact ⟨by rw [HF.out]; rfl, k0⟩
      · rw [mixS, if_pos ⟨h, by omega, by omega⟩]
        exact refmix_yes n i i.toNat w hn h (by omega) (by omega) (hide (by omega))
  · have HF : Hid (mixS n i = ⟨#[]⟩) := if_neg (fun x => h x.1)
    simp only [Bool.not_eq_true] at h
    go_enter Try.func11, Try.ntmps11
    go_wp2_with fail
    refine (refcheck_any _ _ hn).mono ?_
    rintro e w0 ⟨rfl, k0⟩
    rw [h]
    go_wp2
    go_ret
    exact ⟨by rw [HF.out]; rfl, k0⟩

theorem refechoes_any (a b : ByteArray) (w : World) (ha : a.size ≤ maxLen) :
    Calls Try.prog 15 #[.string a, .string b] w fun e w' => e = .returned (.bool (Nm.okL (bl a) && (bl a == bl b))) ∧ Keeps w w' := by
  have e1 : (a.toList == b.toList) = (bl a == bl b) := by rw [toList_bl, toList_bl]
  cases h : Nm.okL (bl a)
  all_goals
    go_enter Try.func15, Try.ntmps15
    go_wp2_with fail
    refine (refcheck_any _ _ ha).mono ?_
    rintro e w1 ⟨rfl, k1⟩
    rw [h]
    go_wp2
    go_ret
    exact ⟨ret_bool (by simp), k1⟩
end Go.Proofs.Ytncgflnjphhhlaa
