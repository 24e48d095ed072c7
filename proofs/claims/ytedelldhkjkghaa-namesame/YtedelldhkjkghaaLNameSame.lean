/- NameSame answers true, for every input: the walk. -/
import Derived.Test.YtedelldhkjkghaaNameLive
namespace Go.Proofs.Ytedelldhkjkghaa
open Go.RowKit

theorem same_self (a : List UInt8) : Nm.sameB a a = Nm.okL a := by simp [Nm.sameB]
theorem same_comm (a b : List UInt8) : Nm.sameB b a = Nm.sameB a b := by
  rw [Bool.eq_iff_iff]
  simp only [Nm.sameB, Bool.and_eq_true, beq_iff_eq]
  exact ⟨fun h => ⟨⟨h.1.2, h.1.1⟩, h.2.symm⟩, fun h => ⟨⟨h.1.2, h.1.1⟩, h.2.symm⟩⟩
theorem same_trans (a b c : List UInt8) (h1 : Nm.sameB a b = true) (h2 : Nm.sameB b c = true) : Nm.sameB a c = true := by
  simp only [Nm.sameB, Bool.and_eq_true, beq_iff_eq] at *
  exact ⟨⟨h1.1.1, h2.1.2⟩, h1.2.trans h2.2⟩
theorem same_ok (a b : List UInt8) (h : Nm.sameB a b = true) : Nm.okL a = true ∧ Nm.okL b = true := by
  simp only [Nm.sameB, Bool.and_eq_true] at h
  exact h.1
theorem low_eq (a b : ByteArray) (h1 : Nm.okL (bl a) = true) (h2 : Nm.okL (bl b) = true) : ((lowS a).toList == (lowS b).toList) = Nm.sameB (bl a) (bl b) := by
  rw [toList_bl, toList_bl, lowS_yes a h1, lowS_yes b h2]
  simp [Nm.sameB, h1, h2]

set_option maxHeartbeats 1600000 in
theorem NameSame_walk (a b c : ByteArray) (w : World) (ha : a.size ≤ maxLen) (hb : b.size ≤ maxLen) (hc : c.size ≤ maxLen) :
    Calls Try.prog 9 #[.string a, .string b, .string c] w fun e w' => e = .returned (.bool true) ∧ Keeps w w' := by
  have ha' := ha
  have hb' := hb
  have hc' := hc
  unfold maxLen at ha' hb' hc'
  by_cases l1 : 300 < (a.size : Int)
  · go_enter Try.func9, Try.ntmps9
    go_wp2_with (go_at_call 10; refine (live2_any _).mono ?_; rintro e w3 ⟨rfl, k3⟩)
    go_ret
    exact ⟨rfl, by assumption⟩
  by_cases l2 : 300 < (b.size : Int)
  · go_enter Try.func9, Try.ntmps9
    go_wp2_with (go_at_call 10; refine (live2_any _).mono ?_; rintro e w3 ⟨rfl, k3⟩)
    go_ret
    exact ⟨rfl, by assumption⟩
  by_cases l3 : 300 < (c.size : Int)
  · go_enter Try.func9, Try.ntmps9
    go_wp2_with (go_at_call 10; refine (live2_any _).mono ?_; rintro e w3 ⟨rfl, k3⟩)
    go_ret
    exact ⟨rfl, by assumption⟩
  have s1 := same_self (bl a)
  have s2 := same_comm (bl a) (bl b)
  have s3 := same_trans (bl a) (bl b) (bl c)
  have s4 := same_ok (bl a) (bl b)
  have s5 := low_eq a b
  have S2 := hide s2
  clear s2
  cases hp : Nm.sameB (bl a) (bl b)
  · clear s3 s4
    cases oa : Nm.okL (bl a)
    · rw [oa] at s1
      clear s5
      go_enter Try.func9, Try.ntmps9
      go_wp2_with fail
      refine (same_any _ _ _ ha ha).mono ?_
      rintro e w1 ⟨rfl, k1⟩
      rw [s1]
      go_wp2_with fail
      refine (check_any _ _ ha).mono ?_
      rintro e w2 ⟨rfl, hw⟩
      subst hw
      go_wp2_with fail
      refine (same_any _ _ _ ha hb).mono ?_
      rintro e w3 ⟨rfl, k3⟩
      rw [hp]
      go_wp2_with fail
      refine (same_any _ _ _ hb ha).mono ?_
      rintro e w4 ⟨rfl, k4⟩
      rw [S2.out, hp]
      go_wp2_with fail
      refine (same_any _ _ _ ha hb).mono ?_
      rintro e w5 ⟨rfl, k5⟩
      rw [hp]
      go_wp2_with fail
      refine (same_any _ _ _ ha hb).mono ?_
      rintro e w6 ⟨rfl, k6⟩
      rw [hp]
      go_wp2_with fail
      refine (check_any _ _ ha).mono ?_
      rintro e w7 ⟨rfl, hw⟩
      subst hw
      go_wp2_with fail
      refine (live2_any _).mono ?_
      rintro e w8 ⟨rfl, k8⟩
      go_wp2
      go_ret
      exact ⟨rfl, (((((k1.trans k3).trans k4).trans k5).trans k6).trans k8)⟩
    · rw [oa] at s1
      cases ob : Nm.okL (bl b)
      · clear s5
        go_enter Try.func9, Try.ntmps9
        go_wp2_with fail
        refine (same_any _ _ _ ha ha).mono ?_
        rintro e w1 ⟨rfl, k1⟩
        rw [s1]
        go_wp2_with fail
        refine (check_any _ _ ha).mono ?_
        rintro e w2 ⟨rfl, hw⟩
        subst hw
        go_wp2_with fail
        refine (same_any _ _ _ ha hb).mono ?_
        rintro e w3 ⟨rfl, k3⟩
        rw [hp]
        go_wp2_with fail
        refine (same_any _ _ _ hb ha).mono ?_
        rintro e w4 ⟨rfl, k4⟩
        rw [S2.out, hp]
        go_wp2_with fail
        refine (same_any _ _ _ ha hb).mono ?_
        rintro e w5 ⟨rfl, k5⟩
        rw [hp]
        go_wp2_with fail
        refine (same_any _ _ _ ha hb).mono ?_
        rintro e w6 ⟨rfl, k6⟩
        rw [hp]
        go_wp2_with fail
        refine (check_any _ _ ha).mono ?_
        rintro e w7 ⟨rfl, hw⟩
        subst hw
        go_wp2_with fail
        refine (check_any _ _ hb).mono ?_
        rintro e w8 ⟨rfl, hw⟩
        subst hw
        go_wp2_with fail
        refine (live2_any _).mono ?_
        rintro e w9 ⟨rfl, k9⟩
        go_wp2
        go_ret
        exact ⟨rfl, (((((k1.trans k3).trans k4).trans k5).trans k6).trans k9)⟩
      · replace s5 := s5 oa ob
        rw [hp] at s5
        go_enter Try.func9, Try.ntmps9
        go_wp2_with fail
        refine (same_any _ _ _ ha ha).mono ?_
        rintro e w1 ⟨rfl, k1⟩
        rw [s1]
        go_wp2_with fail
        refine (check_any _ _ ha).mono ?_
        rintro e w2 ⟨rfl, hw⟩
        subst hw
        go_wp2_with fail
        refine (same_any _ _ _ ha hb).mono ?_
        rintro e w3 ⟨rfl, k3⟩
        rw [hp]
        go_wp2_with fail
        refine (same_any _ _ _ hb ha).mono ?_
        rintro e w4 ⟨rfl, k4⟩
        rw [S2.out, hp]
        go_wp2_with fail
        refine (same_any _ _ _ ha hb).mono ?_
        rintro e w5 ⟨rfl, k5⟩
        rw [hp]
        go_wp2_with fail
        refine (same_any _ _ _ ha hb).mono ?_
        rintro e w6 ⟨rfl, k6⟩
        rw [hp]
        go_wp2_with fail
        refine (check_any _ _ ha).mono ?_
        rintro e w7 ⟨rfl, hw⟩
        subst hw
        go_wp2_with fail
        refine (check_any _ _ hb).mono ?_
        rintro e w8 ⟨rfl, hw⟩
        subst hw
        go_wp2_with fail
        refine (low_any _ _ ha).mono ?_
        rintro e w9 ⟨rfl, k9⟩
        go_wp2_with fail
        refine (low_any _ _ hb).mono ?_
        rintro e w10 ⟨rfl, k10⟩
        go_wp2_with fail
        refine (live2_any _).mono ?_
        rintro e w11 ⟨rfl, k11⟩
        go_wp2
        go_ret
        exact ⟨rfl, (((((((k1.trans k3).trans k4).trans k5).trans k6).trans k9).trans k10).trans k11)⟩
  · obtain ⟨oa, ob⟩ := s4 hp
    replace s5 := s5 oa ob
    replace s3 := s3 hp
    rw [hp] at s5
    rw [oa] at s1
    clear s4
    cases hq : Nm.sameB (bl b) (bl c)
    · clear s3
      go_enter Try.func9, Try.ntmps9
      go_wp2_with fail
      refine (same_any _ _ _ ha ha).mono ?_
      rintro e w1 ⟨rfl, k1⟩
      rw [s1]
      go_wp2_with fail
      refine (check_any _ _ ha).mono ?_
      rintro e w2 ⟨rfl, hw⟩
      subst hw
      go_wp2_with fail
      refine (same_any _ _ _ ha hb).mono ?_
      rintro e w3 ⟨rfl, k3⟩
      rw [hp]
      go_wp2_with fail
      refine (same_any _ _ _ hb ha).mono ?_
      rintro e w4 ⟨rfl, k4⟩
      rw [S2.out, hp]
      go_wp2_with fail
      refine (same_any _ _ _ ha hb).mono ?_
      rintro e w5 ⟨rfl, k5⟩
      rw [hp]
      go_wp2_with fail
      refine (same_any _ _ _ hb hc).mono ?_
      rintro e w6 ⟨rfl, k6⟩
      rw [hq]
      go_wp2_with fail
      refine (same_any _ _ _ ha hb).mono ?_
      rintro e w7 ⟨rfl, k7⟩
      rw [hp]
      go_wp2_with fail
      refine (check_any _ _ ha).mono ?_
      rintro e w8 ⟨rfl, hw⟩
      subst hw
      go_wp2_with fail
      refine (check_any _ _ hb).mono ?_
      rintro e w9 ⟨rfl, hw⟩
      subst hw
      go_wp2_with fail
      refine (low_any _ _ ha).mono ?_
      rintro e w10 ⟨rfl, k10⟩
      go_wp2_with fail
      refine (low_any _ _ hb).mono ?_
      rintro e w11 ⟨rfl, k11⟩
      go_wp2_with fail
      refine (live2_any _).mono ?_
      rintro e w12 ⟨rfl, k12⟩
      go_wp2
      go_ret
      exact ⟨rfl, ((((((((k1.trans k3).trans k4).trans k5).trans k6).trans k7).trans k10).trans k11).trans k12)⟩
    · have hr := s3 hq
      clear s3
      go_enter Try.func9, Try.ntmps9
      go_wp2_with fail
      refine (same_any _ _ _ ha ha).mono ?_
      rintro e w1 ⟨rfl, k1⟩
      rw [s1]
      go_wp2_with fail
      refine (check_any _ _ ha).mono ?_
      rintro e w2 ⟨rfl, hw⟩
      subst hw
      go_wp2_with fail
      refine (same_any _ _ _ ha hb).mono ?_
      rintro e w3 ⟨rfl, k3⟩
      rw [hp]
      go_wp2_with fail
      refine (same_any _ _ _ hb ha).mono ?_
      rintro e w4 ⟨rfl, k4⟩
      rw [S2.out, hp]
      go_wp2_with fail
      refine (same_any _ _ _ ha hb).mono ?_
      rintro e w5 ⟨rfl, k5⟩
      rw [hp]
      go_wp2_with fail
      refine (same_any _ _ _ hb hc).mono ?_
      rintro e w6 ⟨rfl, k6⟩
      rw [hq]
      go_wp2_with fail
      refine (same_any _ _ _ ha hc).mono ?_
      rintro e w7 ⟨rfl, k7⟩
      rw [hr]
      go_wp2_with fail
      refine (same_any _ _ _ ha hb).mono ?_
      rintro e w8 ⟨rfl, k8⟩
      rw [hp]
      go_wp2_with fail
      refine (check_any _ _ ha).mono ?_
      rintro e w9 ⟨rfl, hw⟩
      subst hw
      go_wp2_with fail
      refine (check_any _ _ hb).mono ?_
      rintro e w10 ⟨rfl, hw⟩
      subst hw
      go_wp2_with fail
      refine (low_any _ _ ha).mono ?_
      rintro e w11 ⟨rfl, k11⟩
      go_wp2_with fail
      refine (low_any _ _ hb).mono ?_
      rintro e w12 ⟨rfl, k12⟩
      go_wp2_with fail
      refine (live2_any _).mono ?_
      rintro e w13 ⟨rfl, k13⟩
      go_wp2
      go_ret
      exact ⟨rfl, (((((((((k1.trans k3).trans k4).trans k5).trans k6).trans k7).trans k8).trans k11).trans k12).trans k13)⟩
end Go.Proofs.Ytedelldhkjkghaa
