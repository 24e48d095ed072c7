/- What flag.Answer tells; live answers true. The condition: the table of places reads as the program's text lays it. -/
import Derived.Test.YtojihkejlmggcaaDoorFlagRef2
namespace Go.Proofs.YtojihkejlmggcaaDoor
open Go.RowKit

theorem Fl.of_field (f b : Int) (hf : Fl.isF f = true) : 0 ≤ Fl.of f b ∧ Fl.of f b < Fl.sz f := by
  unfold Fl.of Fl.get
  rcases Fl.field hf with rfl | rfl | rfl | rfl | rfl | rfl | rfl | rfl | rfl <;> simp only [Fl.pw, Fl.sz] <;> split <;> simp <;> omega
theorem with_yes {f b v : Int} (h : Fl.may f b v = true) : Fl.with_ f b v = Fl.lay f b v := by simp [Fl.with_, h]
def ans (j : Nat) (a : Int) : Int := if j = 0 then 32896 else if j = 1 then 32896 + Fl.of 1 a * 2048 else if j = 2 then 32896 + Fl.of 1 a * 2048 + Fl.of 4 a * 256 else 32896 + Fl.of 1 a * 2048 + Fl.of 4 a * 256 + Fl.of 7 a * 16
theorem of_b (a : Int) : (0 ≤ Fl.of 1 a ∧ Fl.of 1 a < 16) ∧ (0 ≤ Fl.of 4 a ∧ Fl.of 4 a < 2) ∧ (0 ≤ Fl.of 7 a ∧ Fl.of 7 a < 2) := ⟨Fl.of_field 1 a (by decide), Fl.of_field 4 a (by decide), Fl.of_field 7 a (by decide)⟩
theorem ans_0 (a : Int) : Fl.with_ 1 (ans 0 a) (Fl.of 1 a) = ans 1 a := by
  obtain ⟨h1, _, _⟩ := of_b a
  generalize hx : Fl.of 1 a = x at *
  have m : Fl.may 1 32896 x = true := by simp [Fl.may, Fl.isF, Fl.isB, Fl.sz]; omega
  simp only [ans, hx]
  simp
  rw [with_yes m]
  simp [Fl.lay, Fl.get, Fl.pw, Fl.sz]
theorem ans_1 (a : Int) : Fl.with_ 4 (ans 1 a) (Fl.of 4 a) = ans 2 a := by
  obtain ⟨h1, h2, _⟩ := of_b a
  generalize hx : Fl.of 1 a = x at *
  generalize hy : Fl.of 4 a = y at *
  simp only [ans, hx, hy]
  simp
  have m : Fl.may 4 (32896 + x * 2048) y = true := by simp [Fl.may, Fl.isF, Fl.isB, Fl.sz]; omega
  rw [with_yes m]
  simp [Fl.lay, Fl.get, Fl.pw, Fl.sz]
  omega
theorem ans_2 (a : Int) : Fl.with_ 7 (ans 2 a) (Fl.of 7 a) = ans 3 a := by
  obtain ⟨h1, h2, h3⟩ := of_b a
  generalize hx : Fl.of 1 a = x at *
  generalize hy : Fl.of 4 a = y at *
  generalize hz : Fl.of 7 a = z at *
  simp only [ans, hx, hy, hz]
  simp
  have m : Fl.may 7 (32896 + x * 2048 + y * 256) z = true := by simp [Fl.may, Fl.isF, Fl.isB, Fl.sz]; omega
  rw [with_yes m]
  simp [Fl.lay, Fl.get, Fl.pw, Fl.sz]
  omega
theorem ans_3 (a c : Int) : Fl.with_ 8 (ans 3 a) (Fl.code c) = Fl.answer a c := by
  obtain ⟨h1, h2, h3⟩ := of_b a
  simp only [Fl.answer]
  have hc : 0 ≤ Fl.code c ∧ Fl.code c < 16 := by unfold Fl.code; omega
  generalize Fl.code c = k at *
  generalize hx : Fl.of 1 a = x at *
  generalize hy : Fl.of 4 a = y at *
  generalize hz : Fl.of 7 a = z at *
  simp only [ans, hx, hy, hz]
  simp
  have m : Fl.may 8 (32896 + x * 2048 + y * 256 + z * 16) k = true := by simp [Fl.may, Fl.isF, Fl.isB, Fl.sz]; omega
  rw [with_yes m]
  simp [Fl.lay, Fl.get, Fl.pw, Fl.sz]
  omega

end Go.Proofs.YtojihkejlmggcaaDoor
