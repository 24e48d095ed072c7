/- Where a rune of more than one byte stands all its bytes are 128 or more. No condition. -/
import Derived.WalkKit
import Derived.Laws.RangeAny
namespace Go.Proofs.Ythoominldliphaa

theorem get_bang (s : ByteArray) (i : Nat) (h : i < s.size) : s.get! i = s[i] := by
  have := Go.get_at s i h
  simpa using this
theorem span1 (s : ByteArray) (p : Nat) (h : p < s.size) (ha : 128 ≤ s[p].toNat) : p + 1 ≤ s.size ∧ ∀ i, p ≤ i → i < p + 1 → ∀ hi : i < s.size, 128 ≤ s[i].toNat :=
  ⟨h, fun i h1 h2 hi => by obtain rfl : i = p := by omega
                           exact ha⟩
theorem cont_high (s : ByteArray) (i : Nat) (h : i < s.size) (hc : (s.get! i).toNat / 64 = 2) : 128 ≤ s[i].toNat := by
  rw [get_bang s i h] at hc
  omega
theorem decode_span (s : ByteArray) (p : Nat) (h : p < s.size) (ha : 128 ≤ s[p].toNat) :
    p + (Utf8.decode s p).2 ≤ s.size ∧ ∀ i, p ≤ i → i < p + (Utf8.decode s p).2 → ∀ hi : i < s.size, 128 ≤ s[i].toNat := by
  have h1 := span1 s p h ha
  unfold Utf8.decode
  simp only []
  split
  · exact h1
  split
  · rename_i hc
    simp only [Bool.and_eq_true, decide_eq_true_eq, beq_iff_eq] at hc
    split
    · refine ⟨by simp; omega, fun i a b hi => ?_⟩
      simp only at b
      rcases (show i = p ∨ i = p + 1 by omega) with rfl | rfl
      · exact ha
      · exact cont_high s _ hi hc.2.2
    · exact h1
  split
  · rename_i hc
    simp only [Bool.and_eq_true, decide_eq_true_eq, beq_iff_eq] at hc
    split
    · refine ⟨by simp; omega, fun i a b hi => ?_⟩
      simp only at b
      rcases (show i = p ∨ i = p + 1 ∨ i = p + 2 by omega) with rfl | rfl | rfl
      · exact ha
      · exact cont_high s _ hi hc.1.2.2
      · exact cont_high s _ hi hc.2.2
    · exact h1
  split
  · rename_i hc
    simp only [Bool.and_eq_true, decide_eq_true_eq, beq_iff_eq] at hc
    split
    · refine ⟨by simp; omega, fun i a b hi => ?_⟩
      simp only at b
      rcases (show i = p ∨ i = p + 1 ∨ i = p + 2 ∨ i = p + 3 by omega) with rfl | rfl | rfl | rfl
      · exact ha
      · exact cont_high s _ hi hc.1.1.2.2
      · exact cont_high s _ hi hc.1.2.2
      · exact cont_high s _ hi hc.2.2
    · exact h1
  · exact h1
end Go.Proofs.Ythoominldliphaa
