/- The examples that the statements of layer 5 ask for answer true. -/
import Derived.Test.YtfhdibkacclkaaaDataRef6
import Derived.Test.YtfhdibkacclkaaaNameRef3
namespace Go.Proofs.Ytfhdibkacclkaaa
open Go.RowKit

theorem small_max5 (s : ByteArray) (h : s.size ≤ 100) : s.size ≤ maxLen := by unfold maxLen; omega
theorem one_read (w : World) (t : TypeId) (X : ByteArray) : ReadS (w.alloc (.cells #[.string X] t)) (.slice (some ⟨w.heap.size, 0, none⟩) 1 1) [bl X] := by
  refine ReadS.mk (off := 0) rfl (fun i hi => ?_) (by decide)
  have hi2 : i < 1 := hi
  rw [Nat.zero_add]
  refine (World.cell?_alloc_mark w _ t (0, 0) i).trans ?_
  obtain rfl : i = 0 := by omega
  simp [sv_bl]

set_option maxHeartbeats 1600000 in
theorem live5_any (w : World) : Calls Try.prog 8 #[] w fun e w' => e = .returned (.bool true) ∧ Keeps w w' := by
  have a0 : erS (Dt.expL (bl ⟨#[1, 97, 0, 0, 10, 1, 66, 192, 0]⟩) 3 6 15) = ⟨#[0, 10, 1, 66, 1, 97, 0]⟩ := by decide +kernel
  have a1 : (Dt.expL (bl ⟨#[1, 97, 0, 0, 10, 1, 66, 192, 0]⟩) 3 6 15).e = 0 := by decide +kernel
  have b1 : (Dt.expL (bl ⟨#[1, 97, 0]⟩) 0 2 2).e = 4 := by decide +kernel
  have c1 : (Dt.expL (bl ⟨#[1, 97, 0]⟩) 0 4 2).e = 2 := by decide +kernel
  have d1 : Dt.checkB 15 (bl ⟨#[0, 10, 1, 66, 1, 97, 0]⟩) = true := by decide +kernel
  have d2 : Dt.checkB 1 (bl ⟨#[97, 98, 99]⟩) = false := by decide +kernel
  have d3 : Dt.checkB 1 (bl ⟨#[97, 98, 99, 100]⟩) = true := by decide +kernel
  have d4 : Dt.checkB 99 (bl ⟨#[]⟩) = true := by decide +kernel
  have d5 : Dt.namesL 15 (bl ⟨#[0, 10, 1, 66, 1, 97, 0]⟩) = [bl ⟨#[1, 66, 1, 97, 0]⟩] := by decide +kernel
  have d6 : (⟨(Dt.lowD 15 (bl ⟨#[0, 10, 1, 66, 1, 97, 0]⟩)).toArray⟩ : ByteArray) = ⟨#[0, 10, 1, 98, 1, 97, 0]⟩ := by decide +kernel
  have d7 : Dt.checkB 16 (bl ⟨#[1, 97, 0]⟩) = true := by decide +kernel
  have d8 : Dt.checkB 16 (bl ⟨#[]⟩) = false := by decide +kernel
  have m0 : (⟨#[1, 97, 0, 0, 10, 1, 66, 192, 0]⟩ : ByteArray).size ≤ maxLen := small_max5 _ (by decide)
  have m1 : (⟨#[1, 97, 0]⟩ : ByteArray).size ≤ maxLen := small_max5 _ (by decide)
  have m2 : (⟨#[0, 10, 1, 66, 1, 97, 0]⟩ : ByteArray).size ≤ maxLen := small_max5 _ (by decide)
  have m3 : (⟨#[97, 98, 99]⟩ : ByteArray).size ≤ maxLen := small_max5 _ (by decide)
  have m4 : (⟨#[97, 98, 99, 100]⟩ : ByteArray).size ≤ maxLen := small_max5 _ (by decide)
  have m5 : (⟨#[]⟩ : ByteArray).size ≤ maxLen := small_max5 _ (by decide)
  go_enter Try.func8, Try.ntmps8
  have K := Keeps.refl w
  go_wp2_with fail
  refine (expand_any _ _ _ _ _ m0 (by decide)).mono ?_
  rintro e wk ⟨rfl, k⟩
  replace K := K.trans k
  clear k
  rw [a0, a1]
  go_wp2_with fail
  refine (expand_any _ _ _ _ _ m1 (by decide)).mono ?_
  rintro e wk ⟨rfl, k⟩
  replace K := K.trans k
  clear k
  rw [b1]
  go_wp2_with fail
  refine (expand_any _ _ _ _ _ m1 (by decide)).mono ?_
  rintro e wk ⟨rfl, k⟩
  replace K := K.trans k
  clear k
  rw [c1]
  go_wp2_with fail
  refine (dcheck_any _ _ _ m2).mono ?_
  rintro e wk ⟨rfl, k⟩
  replace K := K.trans k
  clear k
  rw [d1]
  go_wp2_with fail
  refine (dcheck_any _ _ _ m3).mono ?_
  rintro e wk ⟨rfl, k⟩
  replace K := K.trans k
  clear k
  rw [d2]
  go_wp2_with fail
  refine (dcheck_any _ _ _ m4).mono ?_
  rintro e wk ⟨rfl, k⟩
  replace K := K.trans k
  clear k
  rw [d3]
  go_wp2_with fail
  refine (dcheck_any _ _ _ m5).mono ?_
  rintro e wk ⟨rfl, k⟩
  replace K := K.trans k
  clear k
  rw [d4]
  go_wp2_with fail
  refine (dnames_any _ _ _ m2).mono ?_
  rintro e wn ⟨v, rfl, hown, kn⟩
  replace K := K.trans kn
  rw [d5] at hown
  have HR := hide hown.read
  clear hown
  go_wp2_with fail
  refine (texts_any _ _ _ _ _ (HR.out.keeps ((Keeps.refl _).alloc _)) (one_read _ _ _) (by decide)).mono ?_
  rintro e wt ⟨rfl, kt⟩
  replace K := (K.alloc _).trans kt
  rw [beq_self_eq_true]
  go_wp2_with fail
  refine (dlow_any _ _ _ m2).mono ?_
  rintro e wk ⟨rfl, k⟩
  replace K := K.trans k
  clear k
  rw [d6]
  go_wp2_with fail
  refine (dcheck_any _ _ _ m1).mono ?_
  rintro e wk ⟨rfl, k⟩
  replace K := K.trans k
  clear k
  rw [d7]
  go_wp2_with fail
  refine (dcheck_any _ _ _ m5).mono ?_
  rintro e wk ⟨rfl, k⟩
  replace K := K.trans k
  clear k
  rw [d8]
  go_wp2
  go_ret
  exact ⟨rfl, K⟩
end Go.Proofs.Ytfhdibkacclkaaa
