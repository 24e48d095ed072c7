/- EdnsLimits answers true, for every input: the walk. The condition: the table of places reads as the program's text lays it. -/
import Derived.Test.YtojihkejlmggcaaDoorEdnsLive
namespace Go.Proofs.YtojihkejlmggcaaDoor
open Go.RowKit

theorem limit_has (a : Int) : opLimit ⟨true, a, 0, 0, false⟩ = if 512 ≤ a then min a 4096 else 512 := by
  simp [opLimit]
theorem limit_no (a : Int) : opLimit ⟨false, a, 0, 0, false⟩ = 512 := by
  simp [opLimit]
set_option maxHeartbeats 2000000 in
set_option maxRecDepth 100000 in
theorem EdnsLimits_walk (a b : Int) (w : World) (T : Tab w) (_ : -9223372036854775808 ≤ a ∧ a ≤ 9223372036854775807) (_ : -9223372036854775808 ≤ b ∧ b ≤ 9223372036854775807) :
    Calls Tryd.prog 6 #[.int .i64 a, .int .i64 b] w fun e w' => e = .returned (.bool true) ∧ Keeps w w' := by
  have HA := hide (fun W => limit_any ⟨true, a, 0, 0, false⟩ W)
  have HB := hide (fun W => limit_any ⟨true, b, 0, 0, false⟩ W)
  have HN := hide (fun W => limit_any ⟨false, a, 0, 0, false⟩ W)
  rw [limit_no] at HN
  have hx : (a ≤ b → opLimit ⟨true, a, 0, 0, false⟩ ≤ opLimit ⟨true, b, 0, 0, false⟩) ∧ (512 ≤ a → a ≤ 4096 → opLimit ⟨true, a, 0, 0, false⟩ = a) := by
    rw [limit_has, limit_has]
    constructor
    · intro h
      split <;> split <;> omega
    · intro h1 h2
      rw [if_pos h1]
      omega
  generalize opLimit ⟨true, a, 0, 0, false⟩ = X at *
  generalize opLimit ⟨true, b, 0, 0, false⟩ = Y at *
  obtain ⟨h1, h2⟩ := hx
  unfold opV at HA HB HN
  have HT := hide T
  clear T
  have HE : Hid (decide (512 ≤ a) = true → decide (a ≤ 4096) = true → X = a) := fun p q => h2 (of_decide_eq_true p) (of_decide_eq_true q)
  have HL : Hid (decide (a ≤ b) = true → decide (Y < X) = false) := fun p => decide_eq_false (by have := h1 (of_decide_eq_true p); omega)
  clear h1 h2
  go_enter Tryd.func6, Tryd.ntmps6
  go_wp2_with fail
  refine (HA.out _).mono ?_
  rintro e w1 ⟨rfl, k1⟩
  have K := hide k1
  clear k1
  go_wp2_with fail
  refine (HB.out _).mono ?_
  rintro e w2 ⟨rfl, k1⟩
  replace K := hide (K.out.trans k1)
  clear k1
  cases h1 : decide (a ≤ b)
  · cases h2 : decide (512 ≤ a)
    · go_wp2_with fail
      refine (HN.out _).mono ?_
      rintro e w3 ⟨rfl, k1⟩
      replace K := hide (K.out.trans k1)
      clear k1
      go_wp2_with fail
      refine (live9_any _ (HT.out.keeps K.out)).mono ?_
      rintro e w4 ⟨rfl, k1⟩
      replace K := hide (K.out.trans k1)
      clear k1
      go_wp2
      go_ret
      exact ⟨rfl, K.out⟩
    · cases h3 : decide (a ≤ 4096)
      · go_wp2_with fail
        refine (HN.out _).mono ?_
        rintro e w3 ⟨rfl, k1⟩
        replace K := hide (K.out.trans k1)
        clear k1
        go_wp2_with fail
        refine (live9_any _ (HT.out.keeps K.out)).mono ?_
        rintro e w4 ⟨rfl, k1⟩
        replace K := hide (K.out.trans k1)
        clear k1
        go_wp2
        go_ret
        exact ⟨rfl, K.out⟩
      · obtain rfl := HE.out h2 h3
        go_wp2_with fail
        refine (HN.out _).mono ?_
        rintro e w3 ⟨rfl, k1⟩
        replace K := hide (K.out.trans k1)
        clear k1
        go_wp2_with fail
        refine (live9_any _ (HT.out.keeps K.out)).mono ?_
        rintro e w4 ⟨rfl, k1⟩
        replace K := hide (K.out.trans k1)
        clear k1
        go_wp2
        go_ret
        exact ⟨rfl, K.out⟩
  · have hxy := HL.out h1
    cases h2 : decide (512 ≤ a)
    · go_wp2_with fail
      refine (HN.out _).mono ?_
      rintro e w3 ⟨rfl, k1⟩
      replace K := hide (K.out.trans k1)
      clear k1
      go_wp2_with fail
      refine (live9_any _ (HT.out.keeps K.out)).mono ?_
      rintro e w4 ⟨rfl, k1⟩
      replace K := hide (K.out.trans k1)
      clear k1
      go_wp2
      go_ret
      exact ⟨rfl, K.out⟩
    · cases h3 : decide (a ≤ 4096)
      · go_wp2_with fail
        refine (HN.out _).mono ?_
        rintro e w3 ⟨rfl, k1⟩
        replace K := hide (K.out.trans k1)
        clear k1
        go_wp2_with fail
        refine (live9_any _ (HT.out.keeps K.out)).mono ?_
        rintro e w4 ⟨rfl, k1⟩
        replace K := hide (K.out.trans k1)
        clear k1
        go_wp2
        go_ret
        exact ⟨rfl, K.out⟩
      · obtain rfl := HE.out h2 h3
        go_wp2_with fail
        refine (HN.out _).mono ?_
        rintro e w3 ⟨rfl, k1⟩
        replace K := hide (K.out.trans k1)
        clear k1
        go_wp2_with fail
        refine (live9_any _ (HT.out.keeps K.out)).mono ?_
        rintro e w4 ⟨rfl, k1⟩
        replace K := hide (K.out.trans k1)
        clear k1
        go_wp2
        go_ret
        exact ⟨rfl, K.out⟩
end Go.Proofs.YtojihkejlmggcaaDoor
