/- What name.Join answers, for every slice of texts. -/
import Derived.Test.YthoominldliphaaNameWalk2
import Derived.Test.YthoominldliphaaBytes
namespace Go.Proofs.Ythoominldliphaa
open Go.RowKit

def joinS (ls : List (List UInt8)) : ByteArray := if Nm.joinOk ls = true then ⟨(Nm.joinL ls).toArray⟩ else ⟨#[]⟩
def flat (ls : List (List UInt8)) : List UInt8 := ls.flatMap Nm.lab

theorem flat_take (ls : List (List UInt8)) (j : Nat) (h : j < ls.length) : flat (ls.take (j + 1)) = flat (ls.take j) ++ Nm.lab ls[j] := by
  rw [List.take_succ_eq_append_getElem h]
  simp only [flat, List.flatMap_append, List.flatMap_cons, List.flatMap_nil, List.append_nil]
theorem flat_split (ls : List (List UInt8)) (j : Nat) : (flat ls).length = (flat (ls.take j)).length + (flat (ls.drop j)).length := by
  conv => lhs; rw [← List.take_append_drop j ls]
  simp only [flat, List.flatMap_append, List.length_append]
theorem joinL_flat (ls : List (List UInt8)) : Nm.joinL ls = flat ls ++ [0] := rfl
theorem lab_length (x : List UInt8) : (Nm.lab x).length = x.length + 1 := by simp [Nm.lab]
theorem joinOk_bad (ls : List (List UInt8)) (j : Nat) (h : j < ls.length) (hb : Nm.sizeOk ls[j] = false) : Nm.joinOk ls = false := by
  simp only [Nm.joinOk, Bool.and_eq_false_iff]
  left
  rw [List.all_eq_false]
  exact ⟨_, List.getElem_mem h, by simp [hb]⟩
theorem joinOk_long (ls : List (List UInt8)) (j : Nat) (h : j < ls.length) (hb : 255 < (flat (ls.take j)).length + ls[j].length + 2) : Nm.joinOk ls = false := by
  have h1 := flat_split ls (j + 1)
  rw [flat_take ls j h, List.length_append, lab_length] at h1
  simp only [Nm.joinOk, Bool.and_eq_false_iff, decide_eq_false_iff_not]
  right
  rw [joinL_flat, List.length_append, List.length_singleton]
  omega
theorem joinOk_all (ls : List (List UInt8)) (h1 : ls.all Nm.sizeOk = true) (h2 : (flat ls).length ≤ 254) : Nm.joinOk ls = true := by
  simp only [Nm.joinOk, Bool.and_eq_true, decide_eq_true_eq]
  exact ⟨h1, by rw [joinL_flat, List.length_append, List.length_singleton]; omega⟩

theorem isEmpty_size (X : ByteArray) : X.toList.isEmpty = decide (X.size = 0) := by
  rw [toList_bl, Bool.eq_iff_iff, List.isEmpty_iff, decide_eq_true_eq, ← List.length_eq_zero_iff, bl_length]
theorem sizeOk_false (x : List UInt8) (h : x.length = 0 ∨ 63 < x.length) : Nm.sizeOk x = false := by
  simp only [Nm.sizeOk, decide_eq_false_iff_not]; omega

end Go.Proofs.Ythoominldliphaa
