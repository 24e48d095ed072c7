/- What name.Same and In answer, for every input. -/
import Derived.Test.YthoominldliphaaNameWalk3
namespace Go.Proofs.Ythoominldliphaa
open Go.RowKit

theorem lowS_yes (n : ByteArray) (h : Nm.okL (bl n) = true) : bl (lowS n) = Nm.lowL (bl n) := by rw [lowS, if_pos h, bl_mk]
theorem lowS_size (n : ByteArray) : (lowS n).size ≤ n.size := by
  by_cases h : Nm.okL (bl n) = true
  · rw [← bl_length, lowS_yes n h, Nm.lowL_length, bl_length]; exact Nat.le_refl _
  · rw [lowS, if_neg h]; exact Nat.zero_le _

theorem up1_from (m : ByteArray) (hp : 0 < m.size) : bl (m.extract (1 + m[0].toNat) m.size) = Nm.up1 (bl m) := by
  rw [bl_from, Nm.up1]
  have hd := bl_drop m 0 hp
  rw [List.drop_zero] at hd
  rw [show (bl m).headD 0 = m[0] by rw [hd]; rfl]

set_option maxHeartbeats 400000 in
theorem in_any (a b : ByteArray) (w : World) (ha : a.size ≤ maxLen) (hb : b.size ≤ maxLen) :
    Calls Try.prog 55 #[.string a, .string b] w fun e w' => e = .returned (.bool (Nm.inB (bl a) (bl b))) ∧ Keeps w w' := by
  by_cases h1 : Nm.okL (bl a) = true
  · by_cases h2 : Nm.okL (bl b) = true
    · have HF : Hid (Nm.inB (bl a) (bl b) = Nm.anc (bl (lowS a)).length (bl (lowS a)) (bl (lowS b))) := by
        unfold Hid; rw [lowS_yes a h1, lowS_yes b h2, Nm.lowL_length]; simp [Nm.inB, h1, h2]
      have hA : Nm.okL (bl (lowS a)) = true := by rw [lowS_yes a h1, Nm.ok_low]; exact h1
      have hAs := lowS_size a
      go_enter Try.func55, Try.ntmps55
      go_wp2_with fail
      refine (check_any _ _ ha).mono ?_
      rintro e w1 ⟨rfl, hw⟩
      subst hw
      rw [h1]
      go_wp2_with fail
      refine (check_any _ _ hb).mono ?_
      rintro e w1 ⟨rfl, hw⟩
      subst hw
      rw [h2]
      go_wp2_with fail
      refine (low_any _ _ ha).mono ?_
      rintro e w1 ⟨rfl, k1⟩
      go_wp2_with fail
      refine (low_any _ _ hb).mono ?_
      rintro e w2 ⟨rfl, k2⟩
      have K := hide (k1.trans k2)
      clear k1 k2
      generalize lowS a = A at *
      generalize lowS b = Z at *
      go_wp2
      go_loop [0] (fun s => ∃ m : ByteArray, s = .string m ∧ Nm.okL (bl m) = true ∧ Nm.anc (bl A).length (bl A) (bl Z) = Nm.anc (bl m).length (bl m) (bl Z)) (fun s => (strOf s).size)
      case atStart => exact ⟨A, rfl, hA, rfl⟩
      case round =>
        obtain ⟨m, rfl, hm, hanc⟩ := hrel
        have HA := hide hanc
        clear hanc
        by_cases hz : bl m = bl Z
        · have e1 : (m.toList == Z.toList) = true := by rw [toList_bl, toList_bl, hz]; simp
          have HG : Hid (Nm.inB (bl a) (bl b) = true) := by
            unfold Hid; rw [HF.out, HA.out, ← hz]; exact Nm.anc_self hm
          clear hz
          go_wp2
          go_ret
          exact ⟨ret_bool HG.out.symm, K.out⟩
        · have e1 : (m.toList == Z.toList) = false := by rw [toList_bl, toList_bl]; simpa using hz
          by_cases hr : bl m = [0]
          · have e2 : (m.toList == [0]) = true := by rw [toList_bl, hr]; rfl
            have HG : Hid (Nm.inB (bl a) (bl b) = false) := by
              unfold Hid; rw [HF.out, HA.out, hr]; exact Nm.anc_root (by rw [← hr]; exact hz)
            clear hz hr
            go_wp2
            go_ret
            exact ⟨ret_bool HG.out.symm, K.out⟩
          · have e2 : (m.toList == [0]) = false := by rw [toList_bl]; simpa using hr
            obtain ⟨hp, q1, q2, q3, q4, q5, q6⟩ := ok_parts m hm hr
            have HU := hide (up1_from m hp)
            have HO := hide (Nm.up1_ok hm hr)
            have HS := hide (Nm.anc_step hm hr hz)
            have hi : (0 : Int) ≤ ((1 + m[0].toNat : Nat) : Int) := by omega
            have hj : ((1 + m[0].toNat : Nat) : Int) ≤ (m.size : Int) := by omega
            clear hz hr q1 q2 q6
            go_wp2_with (go_at_call 60; refine (firstEnd_any _ _ hp).mono ?_; rintro e w1 ⟨rfl, rfl⟩)
            go_round
            case rel => exact ⟨_, rfl, by rw [HU.out]; exact HO.out.1, by rw [HA.out, HS.out, HU.out]⟩
            case measure => simp [strOf, ByteArray.size_extract]; omega
    · have HF : Hid (Nm.inB (bl a) (bl b) = false) := by simp [Nm.inB, h2, Hid]
      simp only [Bool.not_eq_true] at h2
      go_enter Try.func55, Try.ntmps55
      go_wp2_with fail
      refine (check_any _ _ ha).mono ?_
      rintro e w1 ⟨rfl, hw⟩
      subst hw
      rw [h1]
      go_wp2_with fail
      refine (check_any _ _ hb).mono ?_
      rintro e w1 ⟨rfl, hw⟩
      subst hw
      rw [h2]
      go_wp2
      go_ret
      exact ⟨ret_bool HF.out.symm, Keeps.refl _⟩
  · have HF : Hid (Nm.inB (bl a) (bl b) = false) := by simp [Nm.inB, h1, Hid]
    simp only [Bool.not_eq_true] at h1
    go_enter Try.func55, Try.ntmps55
    go_wp2_with fail
    refine (check_any _ _ ha).mono ?_
    rintro e w1 ⟨rfl, hw⟩
    subst hw
    rw [h1]
    go_wp2
    go_ret
    exact ⟨ret_bool HF.out.symm, Keeps.refl _⟩
end Go.Proofs.Ythoominldliphaa
