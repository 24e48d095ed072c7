/- What flag.Answer tells; live answers true. The condition: the table of places reads as the program's text lays it. -/
import Derived.Test.YtcnpnlbmibnkdaaDoorFlagRef2
namespace Go.Proofs.YtcnpnlbmibnkdaaDoor
open Go.RowKit

theorem Fl.of_field (f b : Int) (hf : Fl.isF f = true) : 0 ≤ Fl.of f b ∧ Fl.of f b < Fl.sz f := by
  unfold Fl.of Fl.get
  rcases Fl.field hf with rfl | rfl | rfl | rfl | rfl | rfl | rfl | rfl | rfl <;> simp only [Fl.pw, Fl.sz] <;> split <;> simp <;> omega
theorem with_yes {f b v : Int} (h : Fl.may f b v = true) : Fl.with_ f b v = Fl.lay f b v := by simp [Fl.with_, h]
def ans (j : Nat) (a : Int) : Int := if j = 0 then 32896 else if j = 1 then 32896 + Fl.of 1 a * 2048 else if j = 2 then 32896 + Fl.of 1 a * 2048 + Fl.of 4 a * 256 else 32896 + Fl.of 1 a * 2048 + Fl.of 4 a * 256 + Fl.of 7 a * 16
theorem of_b (a : Int) : (0 ≤ Fl.of 1 a ∧ Fl.of 1 a < 16) ∧ (0 ≤ Fl.of 4 a ∧ Fl.of 4 a < 2) ∧ (0 ≤ Fl.of 7 a ∧ Fl.of 7 a < 2) := ⟨Fl.of_field 1 a (by decide), Fl.of_field 4 a (by decide), Fl.of_field 7 a (by decide)⟩
theorem ans_0 (a : Int) : Fl.with_ 1 (ans 0 a) (Fl.of 1 a) = ans 1 a := by
  obtain ⟨h1, _, _⟩ := of_b a
  generalize hx : Fl.of 1 a = x at *
  have m : Fl.may 1 32896 x = true := by simp [Fl.may, Fl.isF, Fl.isB, Fl.sz]; omega
  simp only [ans, hx]
  simp
  rw [with_yes m]
  simp [Fl.lay, Fl.get, Fl.pw, Fl.sz]
theorem ans_1 (a : Int) : Fl.with_ 4 (ans 1 a) (Fl.of 4 a) = ans 2 a := by
  obtain ⟨h1, h2, _⟩ := of_b a
  generalize hx : Fl.of 1 a = x at *
  generalize hy : Fl.of 4 a = y at *
  simp only [ans, hx, hy]
  simp
  have m : Fl.may 4 (32896 + x * 2048) y = true := by simp [Fl.may, Fl.isF, Fl.isB, Fl.sz]; omega
  rw [with_yes m]
  simp [Fl.lay, Fl.get, Fl.pw, Fl.sz]
  omega
theorem ans_2 (a : Int) : Fl.with_ 7 (ans 2 a) (Fl.of 7 a) = ans 3 a := by
  obtain ⟨h1, h2, h3⟩ := of_b a
  generalize hx : Fl.of 1 a = x at *
  generalize hy : Fl.of 4 a = y at *
  generalize hz : Fl.of 7 a = z at *
  simp only [ans, hx, hy, hz]
  simp
  have m : Fl.may 7 (32896 + x * 2048 + y * 256) z = true := by simp [Fl.may, Fl.isF, Fl.isB, Fl.sz]; omega
  rw [with_yes m]
  simp [Fl.lay, Fl.get, Fl.pw, Fl.sz]
  omega
theorem ans_3 (a c : Int) : Fl.with_ 8 (ans 3 a) (Fl.code c) = Fl.answer a c := by
  obtain ⟨h1, h2, h3⟩ := of_b a
  simp only [Fl.answer]
  have hc : 0 ≤ Fl.code c ∧ Fl.code c < 16 := by unfold Fl.code; omega
  generalize Fl.code c = k at *
  generalize hx : Fl.of 1 a = x at *
  generalize hy : Fl.of 4 a = y at *
  generalize hz : Fl.of 7 a = z at *
  simp only [ans, hx, hy, hz]
  simp
  have m : Fl.may 8 (32896 + x * 2048 + y * 256 + z * 16) k = true := by simp [Fl.may, Fl.isF, Fl.isB, Fl.sz]; omega
  rw [with_yes m]
  simp [Fl.lay, Fl.get, Fl.pw, Fl.sz]
  omega

set_option maxHeartbeats 1600000 in
theorem answer_any (a c : Int) (w : World) (T : Tab w) (hc : -9223372036854775808 ≤ c ∧ c ≤ 9223372036854775807) :
    Calls Tryd.prog 12 #[.int .i64 a, .int .i64 c] w fun e w' => e = .returned (.int .i64 (Fl.answer a c)) ∧ Keeps w w' := by
  have K := hide (Keeps.refl w)
  have T0 := hide T
  clear T
  have e1 : Fl.with_ 0 0 1 = 32768 := by decide
  have e2 : Fl.with_ 5 32768 1 = 32896 := by decide
  go_enter Tryd.func12, Tryd.ntmps12
  go_wp2_with (first | (go_at_call 8; refine (with_any _ _ _ _ (T0.out.keeps K.out) (by omega)).mono ?_; rintro e w5 ⟨rfl, k5⟩; replace K := hide (K.out.trans k5); clear k5) | (go_at_call 10; refine (of_any _ _ _ (T0.out.keeps K.out)).mono ?_; rintro e w5 ⟨rfl, k5⟩; replace K := hide (K.out.trans k5); clear k5))
  go_loopw [7, 23] (fun p i wr => ∃ j : Nat, j ≤ 3 ∧ i = .int .i64 j ∧ p = .int .i64 (ans j a) ∧ Keeps w wr) (fun _ i _ => 3 - (intOf i).toNat)
  case atStart => exact ⟨0, by omega, rfl, rfl, K.out⟩
  case round =>
    clear K e1 e2
    obtain ⟨j, hj, rfl, rfl, K0⟩ := hrel
    have K := hide K0
    clear K0
    obtain ⟨b1, b2, b3⟩ := of_b a
    rcases (show j = 0 ∨ j = 1 ∨ j = 2 ∨ j = 3 by omega) with rfl | rfl | rfl | rfl
    · have r0 : ∀ w, (Instr.index 40 (.agg #[.int .i64 1, .int .i64 4, .int .i64 7]) (.int .i64 0)).run Tryd.prog w = .ok (.int .i64 1) w := fun w => by kernel_rfl
      have e1 := ans_0 a
      generalize ans 0 a = A0 at *
      go_wp2_with (first | (go_at_call 8; refine (with_any _ _ _ _ (T0.out.keeps K.out) (by omega)).mono ?_; rintro e w5 ⟨rfl, k5⟩; replace K := hide (K.out.trans k5); clear k5) | (go_at_call 10; refine (of_any _ _ _ (T0.out.keeps K.out)).mono ?_; rintro e w5 ⟨rfl, k5⟩; replace K := hide (K.out.trans k5); clear k5))
      go_roundw
      case rel => exact ⟨1, by omega, rfl, rfl, K.out⟩
      case measure => simp [intOf]
    · have r0 : ∀ w, (Instr.index 40 (.agg #[.int .i64 1, .int .i64 4, .int .i64 7]) (.int .i64 1)).run Tryd.prog w = .ok (.int .i64 4) w := fun w => by kernel_rfl
      have e1 := ans_1 a
      generalize ans 1 a = A0 at *
      go_wp2_with (first | (go_at_call 8; refine (with_any _ _ _ _ (T0.out.keeps K.out) (by omega)).mono ?_; rintro e w5 ⟨rfl, k5⟩; replace K := hide (K.out.trans k5); clear k5) | (go_at_call 10; refine (of_any _ _ _ (T0.out.keeps K.out)).mono ?_; rintro e w5 ⟨rfl, k5⟩; replace K := hide (K.out.trans k5); clear k5))
      go_roundw
      case rel => exact ⟨2, by omega, rfl, rfl, K.out⟩
      case measure => simp [intOf]
    · have r0 : ∀ w, (Instr.index 40 (.agg #[.int .i64 1, .int .i64 4, .int .i64 7]) (.int .i64 2)).run Tryd.prog w = .ok (.int .i64 7) w := fun w => by kernel_rfl
      have e1 := ans_2 a
      generalize ans 2 a = A0 at *
      go_wp2_with (first | (go_at_call 8; refine (with_any _ _ _ _ (T0.out.keeps K.out) (by omega)).mono ?_; rintro e w5 ⟨rfl, k5⟩; replace K := hide (K.out.trans k5); clear k5) | (go_at_call 10; refine (of_any _ _ _ (T0.out.keeps K.out)).mono ?_; rintro e w5 ⟨rfl, k5⟩; replace K := hide (K.out.trans k5); clear k5))
      go_roundw
      case rel => exact ⟨3, by omega, rfl, rfl, K.out⟩
      case measure => simp [intOf]
    · have e1 := ans_3 a c
      obtain ⟨A1, hA⟩ : ∃ A1, A1 = Fl.answer a c := ⟨_, rfl⟩
      rw [← hA] at e1
      have HA := hide hA
      clear hA
      generalize ans 3 a = A0 at *
      by_cases h0 : c < 0
      · rw [show Fl.code c = 0 by unfold Fl.code; omega] at e1
        go_wp2_with (first | (go_at_call 8; refine (with_any _ _ _ _ (T0.out.keeps K.out) (by omega)).mono ?_; rintro e w5 ⟨rfl, k5⟩; replace K := hide (K.out.trans k5); clear k5) | (go_at_call 10; refine (of_any _ _ _ (T0.out.keeps K.out)).mono ?_; rintro e w5 ⟨rfl, k5⟩; replace K := hide (K.out.trans k5); clear k5))
        go_ret
        exact ⟨ret_int HA.out, K.out⟩
      · rw [show Fl.code c = c % 16 by unfold Fl.code; omega] at e1
        go_wp2_with (first | (go_at_call 8; refine (with_any _ _ _ _ (T0.out.keeps K.out) (by omega)).mono ?_; rintro e w5 ⟨rfl, k5⟩; replace K := hide (K.out.trans k5); clear k5) | (go_at_call 10; refine (of_any _ _ _ (T0.out.keeps K.out)).mono ?_; rintro e w5 ⟨rfl, k5⟩; replace K := hide (K.out.trans k5); clear k5))
        go_ret
        exact ⟨ret_int HA.out, K.out⟩

set_option maxHeartbeats 3200000 in
theorem live7_any (w : World) (T : Tab w) : Calls Tryd.prog 14 #[] w fun e w' => e = .returned (.bool true) ∧ Keeps w w' := by
  have K := hide (Keeps.refl w)
  have T0 := hide T
  clear T
  have e1 : Fl.with_ 1 33152 5 = 43392 := by decide
  have f1 : Fl.may 1 33152 5 = true := by decide
  have f2 : Fl.may 0 0 2 = false := by decide
  have g1 : Fl.of 0 33152 = 1 := by decide
  have g2 : Fl.of 4 33152 = 1 := by decide
  have g3 : Fl.of 8 33155 = 3 := by decide
  have g4 : Fl.of 1 30720 = 15 := by decide
  have g5 : Fl.of 9 65535 = 0 := by decide
  have g6 : Fl.of 6 32 = 1 := by decide
  have h1 : Fl.answer 272 3 = 33171 := by decide
  have h2 : Fl.answer (-1) 18 = 32898 := by decide
  go_enter Tryd.func14, Tryd.ntmps14
  go_wp2_with (first | (go_at_call 12; refine (answer_any _ _ _ (T0.out.keeps K.out) (by omega)).mono ?_; rintro e w5 ⟨rfl, k5⟩; replace K := hide (K.out.trans k5); clear k5) | (go_at_call 8; refine (with_any _ _ _ _ (T0.out.keeps K.out) (by omega)).mono ?_; rintro e w5 ⟨rfl, k5⟩; replace K := hide (K.out.trans k5); clear k5) | (go_at_call 10; refine (of_any _ _ _ (T0.out.keeps K.out)).mono ?_; rintro e w5 ⟨rfl, k5⟩; replace K := hide (K.out.trans k5); clear k5))
  go_ret
  exact ⟨rfl, K.out⟩
end Go.Proofs.YtcnpnlbmibnkdaaDoor
