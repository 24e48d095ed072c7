/- NameTells answers true, for every input: the walk. -/
import Derived.Test.YtedelldhkjkghaaNameLive
namespace Go.Proofs.Ytedelldhkjkghaa
open Go.RowKit

theorem labelsOf_len (n : ByteArray) : (labelsOf n).length ≤ 255 := by
  unfold labelsOf
  split
  · rename_i h
    have h1 := (Nm.join_length (Nm.labelsL (bl n))).1
    rw [(Nm.ok_join _ h).1] at h1
    have := ((Nm.okL_spec _).1 h).1
    omega
  · simp

set_option maxHeartbeats 1600000 in
theorem NameTells_walk (n z : ByteArray) (w : World) (hn : n.size ≤ maxLen) (hz : z.size ≤ maxLen) :
    Calls Try.prog 3 #[.string n, .string z] w fun e w' => e = .returned (.bool true) ∧ Keeps w w' := by
  have hn' := hn
  have hz' := hz
  unfold maxLen at hn' hz'
  by_cases l1 : 600 < (n.size : Int)
  · go_enter Try.func3, Try.ntmps3
    go_wp2_with (go_at_call 10; refine (live2_any _).mono ?_; rintro e w3 ⟨rfl, k3⟩)
    go_ret
    exact ⟨rfl, by assumption⟩
  by_cases l2 : 600 < (z.size : Int)
  · go_enter Try.func3, Try.ntmps3
    go_wp2_with (go_at_call 10; refine (live2_any _).mono ?_; rintro e w3 ⟨rfl, k3⟩)
    go_ret
    exact ⟨rfl, by assumption⟩
  have hlen := labelsOf_len n
  cases ho : Nm.okL (bl n)
  · go_enter Try.func3, Try.ntmps3
    go_wp2_with fail
    refine (reflabels_any _ _ hn).mono ?_
    rintro e w1 ⟨v, ls, rfl, hown, hls, hle, k1⟩
    rw [ho]
    have HL : Hid (labelsOf n = []) := by unfold Hid labelsOf; rw [ho]; rfl
    clear hown hls hle
    go_wp2_with fail
    refine (up_any _ _ hn).mono ?_
    rintro e w2 ⟨rfl, hw⟩
    subst hw
    go_wp2_with fail
    refine (refup_any _ _ hn).mono ?_
    rintro e w2 ⟨rfl, k2⟩
    go_wp2_with fail
    refine (check_any _ _ hn).mono ?_
    rintro e w3 ⟨rfl, hw⟩
    subst hw
    rw [ho]
    go_wp2_with fail
    refine (labels_any _ _ hn).mono ?_
    rintro e w4 ⟨v4, rfl, hown4, k4⟩
    have HA := hide hown4.read
    clear hown4
    go_wp2_with fail
    refine (texts_any _ _ (labelsOf n) [] _ HA.out ReadS.none (by omega)).mono ?_
    rintro e w5 ⟨rfl, k5⟩
    rw [HL.out, show (([] : List (List UInt8)) == []) = true from rfl]
    go_wp2_with fail
    refine (low_any _ _ hn).mono ?_
    rintro e w6 ⟨rfl, k6⟩
    go_wp2_with fail
    refine (reflow_any _ _ hn).mono ?_
    rintro e w7 ⟨rfl, k7⟩
    go_wp2_with fail
    refine (same_any _ _ _ hn hz).mono ?_
    rintro e w8 ⟨rfl, k8⟩
    go_wp2_with fail
    refine (refsame_any _ _ _ hn hz).mono ?_
    rintro e w9 ⟨rfl, k9⟩
    go_wp2_with fail
    refine (in_any _ _ _ hn hz).mono ?_
    rintro e w10 ⟨rfl, k10⟩
    go_wp2_with fail
    refine (refin_any _ _ _ hn hz).mono ?_
    rintro e w11 ⟨rfl, k11⟩
    go_wp2_with fail
    refine (live2_any _).mono ?_
    rintro e w12 ⟨rfl, k12⟩
    go_wp2
    go_ret
    exact ⟨rfl, ((((((((((k1.trans k2).trans k4).trans k5).trans k6).trans k7).trans k8).trans k9).trans k10).trans k11).trans k12)⟩
  · go_enter Try.func3, Try.ntmps3
    go_wp2_with fail
    refine (reflabels_any _ _ hn).mono ?_
    rintro e w1 ⟨v, ls, rfl, hown, hls, hle, k1⟩
    rw [ho]
    replace hls := hls ho
    have HR : Hid (ReadS w1 v (labelsOf n)) := by unfold Hid labelsOf; rw [if_pos ho, ← hls]; exact hown.read
    clear hown hls hle
    go_wp2_with fail
    refine (up_any _ _ hn).mono ?_
    rintro e w2 ⟨rfl, hw⟩
    subst hw
    go_wp2_with fail
    refine (refup_any _ _ hn).mono ?_
    rintro e w2 ⟨rfl, k2⟩
    go_wp2_with fail
    refine (check_any _ _ hn).mono ?_
    rintro e w3 ⟨rfl, hw⟩
    subst hw
    rw [ho]
    go_wp2_with fail
    refine (labels_any _ _ hn).mono ?_
    rintro e w4 ⟨v4, rfl, hown4, k4⟩
    have HA := hide hown4.read
    clear hown4
    go_wp2_with fail
    refine (texts_any _ _ (labelsOf n) (labelsOf n) _ HA.out ((HR.out.keeps k2).keeps k4) (by omega)).mono ?_
    rintro e w5 ⟨rfl, k5⟩
    rw [show (labelsOf n == labelsOf n) = true by simp]
    go_wp2_with fail
    refine (low_any _ _ hn).mono ?_
    rintro e w6 ⟨rfl, k6⟩
    go_wp2_with fail
    refine (reflow_any _ _ hn).mono ?_
    rintro e w7 ⟨rfl, k7⟩
    go_wp2_with fail
    refine (same_any _ _ _ hn hz).mono ?_
    rintro e w8 ⟨rfl, k8⟩
    go_wp2_with fail
    refine (refsame_any _ _ _ hn hz).mono ?_
    rintro e w9 ⟨rfl, k9⟩
    go_wp2_with fail
    refine (in_any _ _ _ hn hz).mono ?_
    rintro e w10 ⟨rfl, k10⟩
    go_wp2_with fail
    refine (refin_any _ _ _ hn hz).mono ?_
    rintro e w11 ⟨rfl, k11⟩
    go_wp2_with fail
    refine (live2_any _).mono ?_
    rintro e w12 ⟨rfl, k12⟩
    go_wp2
    go_ret
    exact ⟨rfl, ((((((((((k1.trans k2).trans k4).trans k5).trans k6).trans k7).trans k8).trans k9).trans k10).trans k11).trans k12)⟩
end Go.Proofs.Ytedelldhkjkghaa
