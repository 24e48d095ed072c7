/- The examples that the statements of layer 4 ask for answer true. -/
import Derived.Test.YtknodmcjnadcpaaCompRef1
import Derived.Test.YtknodmcjnadcpaaCompRef2
namespace Go.Proofs.Ytknodmcjnadcpaa
open Go.RowKit

theorem small_max4 (s : ByteArray) (h : s.size ≤ 100) : s.size ≤ maxLen := by unfold maxLen; omega

set_option maxHeartbeats 1600000 in
theorem live4_any (w : World) : Calls Try.prog 9 #[] w fun e w' => e = .returned (.bool true) ∧ Keeps w w' := by
  have a0 : rrS (Cm.readL (bl ⟨#[1, 97, 1, 98, 0, 1, 120, 192, 2, 122]⟩) 5) = ⟨#[1, 120, 1, 98, 0]⟩ := by decide +kernel
  have b0 : (Cm.readL (bl ⟨#[1, 97, 1, 98, 0, 1, 120, 192, 2, 122]⟩) 5).next = 9 := by decide +kernel
  have c0 : (Cm.readL (bl ⟨#[1, 97, 1, 98, 0, 1, 120, 192, 2, 122]⟩) 5).e = 0 := by decide +kernel
  have m0 : (⟨#[1, 97, 1, 98, 0, 1, 120, 192, 2, 122]⟩ : ByteArray).size ≤ maxLen := small_max4 _ (by decide)
  have a1 : rrS (Cm.readL (bl ⟨#[1, 97, 192, 0]⟩) 0) = ⟨#[]⟩ := by decide +kernel
  have b1 : (Cm.readL (bl ⟨#[1, 97, 192, 0]⟩) 0).next = 0 := by decide +kernel
  have c1 : (Cm.readL (bl ⟨#[1, 97, 192, 0]⟩) 0).e = 3 := by decide +kernel
  have m1 : (⟨#[1, 97, 192, 0]⟩ : ByteArray).size ≤ maxLen := small_max4 _ (by decide)
  have a2 : rrS (Cm.readL (bl ⟨#[1, 97]⟩) 0) = ⟨#[]⟩ := by decide +kernel
  have b2 : (Cm.readL (bl ⟨#[1, 97]⟩) 0).next = 0 := by decide +kernel
  have c2 : (Cm.readL (bl ⟨#[1, 97]⟩) 0).e = 2 := by decide +kernel
  have m2 : (⟨#[1, 97]⟩ : ByteArray).size ≤ maxLen := small_max4 _ (by decide)
  have a3 : rrS (Cm.readL (bl ⟨#[64]⟩) 0) = ⟨#[]⟩ := by decide +kernel
  have b3 : (Cm.readL (bl ⟨#[64]⟩) 0).next = 0 := by decide +kernel
  have c3 : (Cm.readL (bl ⟨#[64]⟩) 0).e = 3 := by decide +kernel
  have m3 : (⟨#[64]⟩ : ByteArray).size ≤ maxLen := small_max4 _ (by decide)
  have d0 : wrS ⟨#[1, 97, 1, 98, 0]⟩ 12 ⟨#[1, 120, 1, 66, 0]⟩ = ⟨#[1, 120, 192, 14]⟩ := by decide +kernel
  have p0 : (⟨#[1, 97, 1, 98, 0]⟩ : ByteArray).size ≤ maxLen := small_max4 _ (by decide)
  have q0 : (⟨#[1, 120, 1, 66, 0]⟩ : ByteArray).size ≤ maxLen := small_max4 _ (by decide)
  have d1 : wrS ⟨#[1, 97, 0]⟩ 12 ⟨#[1, 98, 0]⟩ = ⟨#[1, 98, 0]⟩ := by decide +kernel
  have p1 : (⟨#[1, 97, 0]⟩ : ByteArray).size ≤ maxLen := small_max4 _ (by decide)
  have q1 : (⟨#[1, 98, 0]⟩ : ByteArray).size ≤ maxLen := small_max4 _ (by decide)
  have d2 : wrS ⟨#[]⟩ 12 ⟨#[0]⟩ = ⟨#[]⟩ := by decide +kernel
  have p2 : (⟨#[]⟩ : ByteArray).size ≤ maxLen := small_max4 _ (by decide)
  have q2 : (⟨#[0]⟩ : ByteArray).size ≤ maxLen := small_max4 _ (by decide)
  go_enter Try.func9, Try.ntmps9
  go_wp2_with fail
  refine (read_any _ _ _ m0 (by decide)).mono ?_
  rintro e wk0 ⟨rfl, k0⟩
  rw [a0, b0, c0]
  go_wp2_with fail
  refine (read_any _ _ _ m1 (by decide)).mono ?_
  rintro e wk1 ⟨rfl, k1⟩
  rw [a1, b1, c1]
  go_wp2_with fail
  refine (read_any _ _ _ m2 (by decide)).mono ?_
  rintro e wk2 ⟨rfl, k2⟩
  rw [a2, b2, c2]
  go_wp2_with fail
  refine (read_any _ _ _ m3 (by decide)).mono ?_
  rintro e wk3 ⟨rfl, k3⟩
  rw [a3, b3, c3]
  go_wp2_with fail
  refine (write_any _ _ _ _ p0 q0).mono ?_
  rintro e wk4 ⟨rfl, k4⟩
  rw [d0]
  go_wp2_with fail
  refine (write_any _ _ _ _ p1 q1).mono ?_
  rintro e wk5 ⟨rfl, k5⟩
  rw [d1]
  go_wp2_with fail
  refine (write_any _ _ _ _ p2 q2).mono ?_
  rintro e wk6 ⟨rfl, k6⟩
  rw [d2]
  go_wp2
  go_ret
  exact ⟨rfl, (((((k0.trans k1).trans k2).trans k3).trans k4).trans k5).trans k6⟩
end Go.Proofs.Ytknodmcjnadcpaa
