/- What name.Same and In answer, for every input. -/
import Derived.Test.YtfhdibkacclkaaaNameWalk3
namespace Go.Proofs.Ytfhdibkacclkaaa
open Go.RowKit

theorem lowS_yes (n : ByteArray) (h : Nm.okL (bl n) = true) : bl (lowS n) = Nm.lowL (bl n) := by rw [lowS, if_pos h, bl_mk]
theorem lowS_size (n : ByteArray) : (lowS n).size ≤ n.size := by
  by_cases h : Nm.okL (bl n) = true
  · rw [← bl_length, lowS_yes n h, Nm.lowL_length, bl_length]; exact Nat.le_refl _
  · rw [lowS, if_neg h]; exact Nat.zero_le _

theorem up1_from (m : ByteArray) (hp : 0 < m.size) : bl (m.extract (1 + m[0].toNat) m.size) = Nm.up1 (bl m) := by
  rw [bl_from, Nm.up1]
  have hd := bl_drop m 0 hp
  rw [List.drop_zero] at hd
  rw [show (bl m).headD 0 = m[0] by rw [hd]; rfl]

end Go.Proofs.Ytfhdibkacclkaaa
