/- What name.Labels answers, for every input. -/
import Derived.Test.YthoominldliphaaNameWalk1
import Derived.Test.YthoominldliphaaStrs
namespace Go.Proofs.Ythoominldliphaa
open Go.RowKit

def labelsOf (n : ByteArray) : List (List UInt8) := if Nm.okL (bl n) = true then Nm.labelsL (bl n) else []

theorem sv_bl (x : ByteArray) : sv (bl x) = .string x := by simp [sv, bl]
theorem cell_str (w : World) (x : ByteArray) (t : TypeId) : (w.alloc (.cells #[.string x] t)).cell? ⟨w.heap.size, 0, none⟩ = some (sv (bl x)) := by
  rw [sv_bl]
  exact (World.cell?_alloc_mark w _ _ (0, 0) 0).trans rfl

theorem labels_step (m : ByteArray) (h : Nm.okL (bl m) = true) (hr : bl m ≠ [0]) (hp : 0 < m.size) :
    Nm.labelsL (bl m) = bl (m.extract 1 (1 + m[0].toNat)) :: Nm.labelsL (bl (m.extract (1 + m[0].toNat) m.size)) := by
  obtain ⟨_, q1, q2, q3, q4, q5, q6⟩ := ok_parts m h hr
  have hd := bl_drop m 0 hp
  rw [List.drop_zero] at hd
  have hl := bl_length m
  rw [bl_from, bl_extract]
  conv => lhs; rw [Nm.labelsL, hd]
  rw [Nm.labs_cons q2, show 1 + m[0].toNat - 1 = m[0].toNat by omega, Nat.zero_add]
  congr 1
  rw [List.drop_drop, Nm.labelsL]
  exact Nm.labs_fuel _ _ _ (by simp [List.length_drop, hl]; omega) (by omega)

end Go.Proofs.Ythoominldliphaa
