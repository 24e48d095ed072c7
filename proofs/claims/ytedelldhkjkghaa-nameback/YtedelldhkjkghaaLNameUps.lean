/- NameUps answers true, for every input: the walk. -/
import Derived.Test.YtedelldhkjkghaaNameLive
namespace Go.Proofs.Ytedelldhkjkghaa
open Go.RowKit

theorem lowS_ok (m : ByteArray) (h : Nm.okL (bl m) = true) : Nm.okL (bl (lowS m)) = true := by rw [lowS_yes m h, Nm.ok_low]; exact h
/-- One step up, of a name and of it in small letters. -/
theorem up_facts (m : ByteArray) (h : Nm.okL (bl m) = true) (hr : bl m ≠ [0]) :
    upOk m = true ∧ upOk (lowS m) = true ∧ Nm.okL (bl (upS m)) = true ∧ upS (lowS m) = lowS (upS m) ∧ (upS m).size < m.size ∧ m.extract (m.size - (upS m).size) m.size = upS m ∧ (Nm.labelsL (bl m)).length = (Nm.labelsL (bl (upS m))).length + 1 := by
  obtain ⟨hp, q1, q2, q3, q4, q5, q6⟩ := ok_parts m h hr
  have hl := lowS_ok m h
  have hlr : bl (lowS m) ≠ [0] := by rw [lowS_yes m h]; exact fun e => hr ((Nm.low_root _).1 e)
  have e1 : upS m = m.extract (1 + m[0].toNat) m.size := by simp [upS, h, hr, q1]
  have e3 : bl (upS m) = Nm.up1 (bl m) := by rw [e1]; exact up1_from m hp
  have hu := Nm.up1_ok h hr
  have hsz : (upS m).size = m.size - (1 + m[0].toNat) := by rw [e1, ByteArray.size_extract]; omega
  obtain ⟨hpl, _⟩ := ok_parts (lowS m) hl hlr
  have e4 : upS (lowS m) = (lowS m).extract (1 + (lowS m)[0].toNat) (lowS m).size := by
    obtain ⟨hp', q1', _⟩ := ok_parts (lowS m) hl hlr
    simp [upS, hl, hlr, q1']
  refine ⟨by simp [upOk, h, hr], by simp [upOk, hl, hlr], by rw [e3]; exact hu.1, ?_, by omega, ?_, ?_⟩
  · apply bl_inj
    rw [e4, up1_from (lowS m) hpl, lowS_yes m h, Nm.up1_low h hr, lowS_yes (upS m) (by rw [e3]; exact hu.1), e3]
  · rw [hsz, show m.size - (m.size - (1 + m[0].toNat)) = 1 + m[0].toNat by omega, e1]
  · rw [hu.2.2, e3]; simp

set_option maxHeartbeats 1600000 in
theorem NameUps_walk (n : ByteArray) (w : World) (hn : n.size ≤ maxLen) :
    Calls Try.prog 8 #[.string n] w fun e w' => e = .returned (.bool true) ∧ Keeps w w' := by
  have hn' := hn
  unfold maxLen at hn'
  by_cases l1 : 300 < (n.size : Int)
  · go_enter Try.func8, Try.ntmps8
    go_wp2_with (go_at_call 10; refine (live2_any _).mono ?_; rintro e w3 ⟨rfl, k3⟩)
    go_ret
    exact ⟨rfl, by assumption⟩
  cases h : Nm.okL (bl n)
  · go_enter Try.func8, Try.ntmps8
    go_wp2_with (first | (go_at_call 10; refine (live2_any _).mono ?_; rintro e w3 ⟨rfl, k3⟩) | (go_at_call 14; refine (check_any _ _ hn).mono ?_; rintro e w' ⟨rfl, rfl⟩))
    go_ret
    exact ⟨rfl, by assumption⟩
  have hlo : labelsOf n = Nm.labelsL (bl n) := by simp [labelsOf, h]
  have HLO := hide hlo
  clear hlo
  go_enter Try.func8, Try.ntmps8
  go_wp2_with fail
  refine (check_any _ _ hn).mono ?_
  rintro e w1 ⟨rfl, hw⟩
  subst hw
  rw [h]
  go_wp2_with fail
  refine (low_any _ _ hn).mono ?_
  rintro e w2 ⟨rfl, k2⟩
  go_wp2
  go_loopw [3, 4, 5] (fun a b i wr => ∃ (m : ByteArray) (j : Nat), a = .string m ∧ b = .string (lowS m) ∧ i = .int .i64 j ∧ Nm.okL (bl m) = true ∧ m.size ≤ n.size ∧ (Nm.labelsL (bl m)).length + j = (Nm.labelsL (bl n)).length ∧ Keeps w1 wr) (fun a _ _ _ => (strOf a).size)
  case atStart => exact ⟨n, 0, rfl, rfl, rfl, h, Nat.le_refl _, rfl, k2⟩
  case round =>
    obtain ⟨m, j, rfl, rfl, rfl, hm, hms, hcnt, k3⟩ := hrel
    have hmm : m.size ≤ maxLen := by omega
    have hlm : (lowS m).size ≤ maxLen := by have := lowS_size m; omega
    have HCN := hide hcnt
    clear hcnt
    go_wp2_with fail
    refine (labels_any _ _ hn).mono ?_
    rintro e w4 ⟨v, rfl, hown, k4⟩
    rw [HLO.out] at hown
    obtain ⟨a, cap, hv⟩ := (hown.read).len
    subst hv
    have hlen : (Nm.labelsL (bl n)).length ≤ 255 := by
      have h1 := (Nm.join_length (Nm.labelsL (bl n))).1
      rw [(Nm.ok_join _ h).1] at h1
      have := ((Nm.okL_spec _).1 h).1
      omega
    clear hown
    by_cases hr : bl m = [0]
    · have hz : (Nm.labelsL (bl m)).length = 0 := by rw [hr]; rfl
      have hge : ¬ (j : Int) < ((Nm.labelsL (bl n)).length : Int) := by have := HCN.out; omega
      have e1 : upOk m = false := by simp [upOk, hr]
      have e2 : (m.toList == [0]) = true := by rw [toList_bl, hr]; rfl
      have e3 : ((lowS m).toList == m.toList) = true := by
        rw [toList_bl, toList_bl, lowS_yes m hm, hr]; rfl
      clear hz hr
      go_wp2_with fail
      refine (up_any _ _ hmm).mono ?_
      rintro e w5 ⟨rfl, hw⟩
      subst hw
      rw [e1]
      go_wp2_with fail
      refine (live2_any _).mono ?_
      rintro e w6 ⟨rfl, k6⟩
      go_wp2
      go_ret
      exact ⟨rfl, (k3.trans k4).trans k6⟩
    · obtain ⟨u1, u2, u3, u4, u5, u6, u7⟩ := up_facts m hm hr
      have hlt : (j : Int) < ((Nm.labelsL (bl n)).length : Int) := by have := HCN.out; omega
      have hum : (upS m).size ≤ maxLen := by omega
      have hj : (j : Int) ≤ 255 := by omega
      have U7 := hide u7
      clear hr u7
      go_wp2_with fail
      refine (up_any _ _ hmm).mono ?_
      rintro e w5 ⟨rfl, hw⟩
      subst hw
      rw [u1]
      go_wp2_with fail
      refine (up_any _ _ hlm).mono ?_
      rintro e w5 ⟨rfl, hw⟩
      subst hw
      rw [u2, u4]
      generalize hU : upS m = U at *
      have HU := hide hU
      clear hU u4
      go_wp2_with fail
      refine (low_any _ _ hum).mono ?_
      rintro e w6 ⟨rfl, k6⟩
      have i1 : (U.size : Int) < (m.size : Int) := by omega
      have i2 : (0 : Int) ≤ (m.size : Int) - (U.size : Int) := by omega
      have i3 : ((m.size : Int) - (U.size : Int)).toNat = m.size - U.size := by omega
      go_wp2
      go_roundw
      case rel => exact ⟨U, j + 1, rfl, rfl, by go_num, u3, by omega, by have h1 := HCN.out; have h2 := U7.out; omega, (k3.trans k4).trans k6⟩
      case measure => simpa [strOf] using u5
end Go.Proofs.Ytedelldhkjkghaa
