/- Fields laid and told: no other one is another. No condition. -/
import Derived.Test.YtojihkejlmggcaaDoorFlagAns
namespace Go.Proofs.YtojihkejlmggcaaDoor.Fl

theorem may_iff {f b v : Int} : may f b v = true ↔ isF f = true ∧ (0 ≤ b ∧ b ≤ 65535) ∧ (0 ≤ v ∧ v < sz f) := by
  simp only [may, isB, Bool.and_eq_true, decide_eq_true_eq, and_assoc]
theorem isB_iff {b : Int} : isB b = true ↔ 0 ≤ b ∧ b ≤ 65535 := by simp only [isB, decide_eq_true_eq]
theorem of_yes {f b : Int} (hf : isF f = true) (hb : 0 ≤ b ∧ b ≤ 65535) : of f b = get f b := by simp [of, hf, isB_iff.2 hb]

theorem lay_bound {f b v : Int} (h : may f b v = true) : 0 ≤ lay f b v ∧ lay f b v ≤ 65535 := by
  obtain ⟨hf, hb, hv⟩ := may_iff.1 h
  rcases field hf with rfl | rfl | rfl | rfl | rfl | rfl | rfl | rfl | rfl <;> simp [lay, get, pw, sz] at hv ⊢ <;> omega
theorem lay_64 {f b v : Int} (h : may f b v = true) : lay f b v / 64 % 2 = b / 64 % 2 := by
  obtain ⟨hf, hb, hv⟩ := may_iff.1 h
  rcases field hf with rfl | rfl | rfl | rfl | rfl | rfl | rfl | rfl | rfl <;> simp [lay, get, pw, sz] at hv ⊢ <;> omega
theorem get_same {f b v : Int} (h : may f b v = true) : get f (lay f b v) = v := by
  obtain ⟨hf, hb, hv⟩ := may_iff.1 h
  rcases field hf with rfl | rfl | rfl | rfl | rfl | rfl | rfl | rfl | rfl <;> simp [lay, get, pw, sz] at hv ⊢ <;> omega
set_option maxHeartbeats 4000000 in
theorem get_other {f g b v : Int} (h : may f b v = true) (hg : isF g = true) (hne : g ≠ f) : get g (lay f b v) = get g b := by
  obtain ⟨hf, hb, hv⟩ := may_iff.1 h
  clear h
  rcases field hf with rfl | rfl | rfl | rfl | rfl | rfl | rfl | rfl | rfl <;> simp [lay, get, pw, sz] at hv ⊢ <;>
    rcases field hg with rfl | rfl | rfl | rfl | rfl | rfl | rfl | rfl | rfl <;> simp at hne ⊢ <;> omega
theorem of_lay {f g b v : Int} (h : may f b v = true) (hg : isF g = true) : of g (lay f b v) = if g = f then v else of g b := by
  have hb := (may_iff.1 h).2.1
  rw [of_yes hg (lay_bound h)]
  split
  · rename_i e
    subst e
    exact get_same h
  · rename_i e
    rw [get_other h hg e, of_yes hg hb]
theorem may_back {f b v : Int} (h : may f b v = true) : may f (lay f b v) (of f b) = true := by
  obtain ⟨hf, hb, hv⟩ := may_iff.1 h
  exact may_iff.2 ⟨hf, lay_bound h, of_field f b hf⟩
theorem lay_back {f b v : Int} (h : may f b v = true) : lay f (lay f b v) (of f b) = b := by
  obtain ⟨hf, hb, hv⟩ := may_iff.1 h
  rw [lay, get_same h, of_yes hf hb, lay, Int.add_assoc, ← Int.add_mul]
  rw [show v - get f b + (get f b - v) = 0 by omega]
  omega
theorem lay_twice {f b v u : Int} (h : may f b v = true) : lay f (lay f b v) u = lay f b u := by
  rw [lay, get_same h, lay, lay, Int.add_assoc, ← Int.add_mul]
  rw [show v - get f b + (u - v) = u - get f b by omega]
theorem lay_order {f g b v u : Int} (h : may f b v = true) (k : may g b u = true) (hne : f ≠ g) : lay g (lay f b v) u = lay f (lay g b u) v := by
  obtain ⟨hf, _, _⟩ := may_iff.1 h
  obtain ⟨hg, _, _⟩ := may_iff.1 k
  rw [lay, get_other h hg (Ne.symm hne), lay, lay, get_other k hf hne, lay]
  omega
theorem may_over {f g b v u : Int} (h : may f b v = true) (k : may g b u = true) : may g (lay f b v) u = true := by
  obtain ⟨hg, _, hu⟩ := may_iff.1 k
  exact may_iff.2 ⟨hg, lay_bound h, hu⟩

theorem ofs {b : Int} (hb : 0 ≤ b ∧ b ≤ 65535) : of 0 b = b / 32768 % 2 ∧ of 1 b = b / 2048 % 16 ∧ of 2 b = b / 1024 % 2 ∧ of 3 b = b / 512 % 2 ∧ of 4 b = b / 256 % 2 ∧ of 5 b = b / 128 % 2 ∧ of 6 b = b / 32 % 2 ∧ of 7 b = b / 16 % 2 ∧ of 8 b = b % 16 := by
  refine ⟨?_, ?_, ?_, ?_, ?_, ?_, ?_, ?_, ?_⟩ <;> (rw [of_yes (by decide) hb]; simp [get, pw, sz])
/-- What is laid when the first j fields are laid over bit 6. -/
def acc : Nat → Int → Int
  | 0, b => b / 64 % 2 * 64
  | j + 1, b => acc j b + of j b * pw j
set_option maxHeartbeats 4000000 in
theorem acc_step {b : Int} (hb : 0 ≤ b ∧ b ≤ 65535) (j : Nat) (hj : j < 9) : may j (acc j b) (of j b) = true ∧ with_ j (acc j b) (of j b) = acc (j + 1) b := by
  have hf : isF j = true := by simp [isF]; omega
  obtain ⟨e0, e1, e2, e3, e4, e5, e6, e7, _⟩ := ofs hb
  have hfull : (0 ≤ acc j b ∧ acc j b ≤ 65535) ∧ get j (acc j b) = 0 := by
    rcases (show j = 0 ∨ j = 1 ∨ j = 2 ∨ j = 3 ∨ j = 4 ∨ j = 5 ∨ j = 6 ∨ j = 7 ∨ j = 8 by omega) with rfl | rfl | rfl | rfl | rfl | rfl | rfl | rfl | rfl <;>
      simp [acc, e0, e1, e2, e3, e4, e5, e6, e7, get, pw, sz] <;> omega
  have hm : may j (acc j b) (of j b) = true := may_iff.2 ⟨hf, hfull.1, of_field j b hf⟩
  refine ⟨hm, ?_⟩
  rw [with_yes hm, lay, hfull.2, acc]
  rw [show of (j : Int) b - 0 = of j b by omega]
set_option maxHeartbeats 4000000 in
theorem acc_end {b : Int} (hb : 0 ≤ b ∧ b ≤ 65535) : acc 9 b = b := by
  obtain ⟨e0, e1, e2, e3, e4, e5, e6, e7, e8⟩ := ofs hb
  simp [acc, e0, e1, e2, e3, e4, e5, e6, e7, e8, pw]
  omega
theorem and_64 {b : Int} (hb : 0 ≤ b ∧ b ≤ 65535) : bits .and .i64 b 64 = b / 64 % 2 * 64 := by
  obtain ⟨x, rfl⟩ := Int.eq_ofNat_of_zero_le hb.1
  have := and_nat x 64 (by omega) (by omega)
  have h2 := nat_bit 6 x
  rw [show (2 : Nat) ^ 6 = 64 by decide] at h2
  rw [show (64 : Int) = ((64 : Nat) : Int) by rfl, this, h2]
  omega
end Go.Proofs.YtojihkejlmggcaaDoor.Fl
