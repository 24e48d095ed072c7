/- The examples that the statements of layer 2 ask for answer true. -/
import Derived.Test.YtedelldhkjkghaaTextWalk4
import Derived.Test.YtedelldhkjkghaaNameRef3
namespace Go.Proofs.Ytedelldhkjkghaa
open Go.RowKit

theorem size_max (s : ByteArray) (h : s.size ≤ 100) : s.size ≤ maxLen := by unfold maxLen; omega

theorem two_read (w : World) (t : TypeId) : ReadS (w.alloc (.cells #[.string ⟨#[97]⟩, .string ⟨#[66]⟩] t)) (.slice (some ⟨w.heap.size, 0, none⟩) 2 2) [[97], [66]] := by
  refine ReadS.mk (off := 0) rfl (fun i hi => ?_) (by decide)
  have hi2 : i < 2 := hi
  rw [Nat.zero_add]
  refine (World.cell?_alloc_mark w _ t (0, 0) i).trans ?_
  rcases (show i = 0 ∨ i = 1 by omega) with rfl | rfl <;> rfl

set_option maxHeartbeats 1600000 in
theorem live2_any (w : World) : Calls Try.prog 10 #[] w fun e w' => e = .returned (.bool true) ∧ Keeps w w' := by
  have a1 : upS ⟨#[1, 97, 1, 66, 0]⟩ = ⟨#[1, 66, 0]⟩ := by decide +kernel
  have a2 : upOk ⟨#[1, 97, 1, 66, 0]⟩ = true := by decide +kernel
  have a3 : parseS ⟨#[46]⟩ = ⟨#[0]⟩ := by decide +kernel
  have a4 : parseOk ⟨#[46]⟩ = true := by decide +kernel
  have a5 : parseS ⟨#[97, 46, 92, 48, 52, 54, 120]⟩ = ⟨#[1, 97, 2, 46, 120, 0]⟩ := by decide +kernel
  have a6 : parseOk ⟨#[97, 46, 92, 48, 52, 54, 120]⟩ = true := by decide +kernel
  have a7 : parseOk ⟨#[97, 46, 46, 98]⟩ = false := by decide +kernel
  have a8 : upOk ⟨#[0]⟩ = false := by decide +kernel
  have a9 : Nm.okL (bl ⟨#[1, 97, 1, 66, 0]⟩) = true := by decide +kernel
  have a10 : Nm.okL (bl ⟨#[1, 97]⟩) = false := by decide +kernel
  have a11 : Nm.okL (bl ⟨#[]⟩) = false := by decide +kernel
  have a12 : labelsOf ⟨#[1, 97, 1, 66, 0]⟩ = [[97], [66]] := by decide +kernel
  have a13 : lowS ⟨#[1, 97, 1, 66, 0]⟩ = ⟨#[1, 97, 1, 98, 0]⟩ := by decide +kernel
  have a14 : Nm.inB (bl ⟨#[1, 97, 1, 66, 0]⟩) (bl ⟨#[1, 98, 0]⟩) = true := by decide +kernel
  have a15 : Nm.inB (bl ⟨#[1, 97, 1, 66, 0]⟩) (bl ⟨#[0]⟩) = true := by decide +kernel
  have a16 : Nm.inB (bl ⟨#[1, 98, 0]⟩) (bl ⟨#[1, 97, 1, 66, 0]⟩) = false := by decide +kernel
  have a17 : textS ⟨#[1, 97, 1, 66, 0]⟩ = ⟨#[97, 46, 66]⟩ := by decide +kernel
  have a18 : Nm.sameB (bl ⟨#[1, 97, 1, 66, 0]⟩) (bl ⟨#[1, 65, 1, 98, 0]⟩) = true := by decide +kernel
  have m1 : (⟨#[1, 97, 1, 66, 0]⟩ : ByteArray).size ≤ maxLen := size_max _ (by decide)
  have m2 : (⟨#[46]⟩ : ByteArray).size ≤ maxLen := size_max _ (by decide)
  have m3 : (⟨#[97, 46, 92, 48, 52, 54, 120]⟩ : ByteArray).size ≤ maxLen := size_max _ (by decide)
  have m4 : (⟨#[97, 46, 46, 98]⟩ : ByteArray).size ≤ maxLen := size_max _ (by decide)
  have m5 : (⟨#[0]⟩ : ByteArray).size ≤ maxLen := size_max _ (by decide)
  have m6 : (⟨#[1, 97]⟩ : ByteArray).size ≤ maxLen := size_max _ (by decide)
  have m7 : (⟨#[]⟩ : ByteArray).size ≤ maxLen := size_max _ (by decide)
  have m8 : (⟨#[1, 98, 0]⟩ : ByteArray).size ≤ maxLen := size_max _ (by decide)
  have m9 : (⟨#[1, 65, 1, 98, 0]⟩ : ByteArray).size ≤ maxLen := size_max _ (by decide)
  go_enter Try.func10, Try.ntmps10
  go_wp2_with fail
  refine (up_any _ _ m1).mono ?_
  rintro e w1 ⟨rfl, hw⟩
  subst hw
  go_wp2_with fail
  refine (parse_any _ _ m2).mono ?_
  rintro e w2 ⟨rfl, k2⟩
  go_wp2_with fail
  refine (parse_any _ _ m3).mono ?_
  rintro e w3 ⟨rfl, k3⟩
  go_wp2_with fail
  refine (parse_any _ _ m4).mono ?_
  rintro e w4 ⟨rfl, k4⟩
  go_wp2_with fail
  refine (up_any _ _ m5).mono ?_
  rintro e w5 ⟨rfl, hw⟩
  subst hw
  rw [a8]
  go_wp2_with fail
  refine (check_any _ _ m1).mono ?_
  rintro e w5 ⟨rfl, hw⟩
  subst hw
  rw [a9]
  go_wp2_with fail
  refine (check_any _ _ m6).mono ?_
  rintro e w5 ⟨rfl, hw⟩
  subst hw
  rw [a10]
  go_wp2_with fail
  refine (check_any _ _ m7).mono ?_
  rintro e w5 ⟨rfl, hw⟩
  subst hw
  rw [a11]
  go_wp2_with fail
  refine (labels_any _ _ m1).mono ?_
  rintro e w6 ⟨v6, rfl, hown6, k6⟩
  rw [a12] at hown6
  have hr1 := hown6.read
  have HR := hide hr1
  clear hown6 hr1
  go_wp2_with fail
  refine (texts_any _ _ [[97], [66]] [[97], [66]] _ (HR.out.keeps ((Keeps.refl _).alloc _)) (two_read _ _) (by decide)).mono ?_
  rintro e w7 ⟨rfl, k7⟩
  rw [show (([[97], [66]] : List (List UInt8)) == [[97], [66]]) = true from rfl]
  go_wp2_with fail
  refine (low_any _ _ m1).mono ?_
  rintro e w8 ⟨rfl, k8⟩
  rw [a13]
  go_wp2_with fail
  refine (in_any _ _ _ m1 m8).mono ?_
  rintro e w9 ⟨rfl, k9⟩
  rw [a14]
  go_wp2_with fail
  refine (in_any _ _ _ m1 m5).mono ?_
  rintro e w10 ⟨rfl, k10⟩
  rw [a15]
  go_wp2_with fail
  refine (in_any _ _ _ m8 m1).mono ?_
  rintro e w11 ⟨rfl, k11⟩
  rw [a16]
  go_wp2_with fail
  refine (text_any _ _ m1).mono ?_
  rintro e w12 ⟨rfl, k12⟩
  rw [a17]
  go_wp2_with fail
  refine (same_any _ _ _ m1 m9).mono ?_
  rintro e w13 ⟨rfl, k13⟩
  rw [a18]
  go_wp2
  go_ret
  exact ⟨rfl, (((((((((((k2.trans k3).trans k4).trans k6).alloc _).trans k7).trans k8).trans k9).trans k10).trans k11).trans k12).trans k13)⟩
end Go.Proofs.Ytedelldhkjkghaa
