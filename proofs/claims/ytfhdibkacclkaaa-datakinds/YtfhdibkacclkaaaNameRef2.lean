/- What the document's Join, Up, In, Texts answer, for every input. -/
import Derived.Test.YtfhdibkacclkaaaNameRef1
import Derived.Test.YtfhdibkacclkaaaNameWalk5
import Derived.RegionTactic
import Derived.BigRegion
namespace Go.Proofs.Ytfhdibkacclkaaa
open Go.RowKit

theorem joinOk_end (ls : List (List UInt8)) (h1 : ls.all Nm.sizeOk = true) : Nm.joinOk ls = decide ((flat ls).length + 1 ≤ 255) := by
  simp only [Nm.joinOk, h1, Bool.true_and]
  rw [joinL_flat, List.length_append, List.length_singleton]
theorem joinOk_over (ls : List (List UInt8)) (j : Nat) (hb : 255 < (flat (ls.take j)).length) : Nm.joinOk ls = false := by
  have h1 := flat_split ls j
  simp only [Nm.joinOk, Bool.and_eq_false_iff, decide_eq_false_iff_not]
  right
  rw [joinL_flat, List.length_append, List.length_singleton]
  omega

/-- Up is the join of all labels but the first. -/
theorem up_join (n : ByteArray) (h : Nm.okL (bl n) = true) (hr : bl n ≠ [0]) :
    Nm.joinOk (Nm.labelsL (bl n)).tail = true ∧ joinS (Nm.labelsL (bl n)).tail = upS n := by
  have hu := Nm.up1_ok h hr
  have e : (Nm.labelsL (bl n)).tail = Nm.labelsL (Nm.up1 (bl n)) := by rw [hu.2.2]; rfl
  have hj := Nm.ok_join _ hu.1
  rw [e]
  refine ⟨hj.2, ?_⟩
  apply bl_inj
  rw [joinS, if_pos hj.2, bl_mk, hj.1, upS, if_pos ⟨h, hr⟩, bl_from]
  rfl
theorem labels_root (n : ByteArray) (h : Nm.okL (bl n) = true) : (Nm.labelsL (bl n)).length = 0 ↔ bl n = [0] := by
  constructor
  · intro e
    apply Classical.byContradiction
    intro hr
    have hu := Nm.up1_ok h hr
    rw [hu.2.2] at e
    simp at e
  · intro e; rw [e]; rfl
theorem label_short (n : ByteArray) (h : Nm.okL (bl n) = true) (x : List UInt8) (hx : x ∈ Nm.labelsL (bl n)) : x.length ≤ 63 := by
  have h1 := Nm.labs_sizes ((Nm.okL_spec _).1 h).2
  rw [List.all_eq_true] at h1
  have := h1 x hx
  simp only [Nm.sizeOk, decide_eq_true_eq] at this
  exact this.2

end Go.Proofs.Ytfhdibkacclkaaa
