/- The document's Few, Small and In for sets; slices.Equal of texts; Same of package group. No condition but lengths. -/
import Derived.Test.YtgfaoaabnjblhaaGrp3
namespace Go.Proofs.Ytgfaoaabnjblhaa
open Go.RowKit

def fewR (r : Rec) : Bool := decide (r.n.size ≤ 300) && decide (r.d.size ≤ 2000)
def fewL (l : List Rec) : Bool := l.all fewR && decide (l.length ≤ 60)
def fewD (d : List UInt8) : Bool := decide (d.length ≤ 2000)
def smallS (s : St) : Bool := s.ds.all fewD && decide (s.ds.length ≤ 60) && decide (s.key.n.size ≤ 300)
theorem all_take10 {α : Type} (p : α → Bool) {l : List α} {j : Nat} (hj : j < l.length) : (l.take (j + 1)).all p = ((l.take j).all p && p l[j]) := by
  rw [List.take_succ_eq_append_getElem hj, List.all_append]
  simp
theorem all_no10 {α : Type} (p : α → Bool) {l : List α} {j : Nat} (hj : j < l.length) (h : p l[j] = false) : l.all p = false := by
  rw [List.all_eq_false]
  exact ⟨l[j], List.getElem_mem hj, by simp [h]⟩

set_option maxHeartbeats 4000000 in
set_option maxRecDepth 100000 in
theorem In_any (v : Value) (l : List (List UInt8)) (d : ByteArray) (w : World) (hr : ReadS w v l) (hl : l.length ≤ maxLen) :
    Calls Try.prog 56 #[v, .string d] w fun e w' => e = .returned (.bool (decide (bl d ∈ l))) ∧ Keeps w w' := by
  unfold maxLen at hl
  obtain ⟨a, cap, hv⟩ := hr.len
  subst hv
  generalize hR : decide (bl d ∈ l) = R at *
  replace hR := hide hR
  go_enter Try.func56, Try.ntmps56
  go_wp2
  go_loopw [5] (fun i wr => ∃ j : Nat, j ≤ l.length ∧ i = .int .i64 j ∧ Hid (bl d ∉ l.take j) ∧ Keeps w wr) (fun i _ => l.length - (intOf i).toNat)
  case atStart => exact ⟨0, by omega, rfl, by simp [Hid], Keeps.refl _⟩
  case round =>
    obtain ⟨j, hj, rfl, HA, K⟩ := hrel
    by_cases hlt : j < l.length
    · have i2 : (j : Int) < (l.length : Int) := by omega
      have i0 : (0 : Int) ≤ (j : Int) := by omega
      obtain ⟨b, off, cap', he, _, hcell, _⟩ := (hr.keeps K).parts (by omega)
      simp only [Value.slice.injEq, true_and] at he
      obtain ⟨rfl, rfl⟩ := he
      have hc := hcell j hlt
      have HT := hide (show l.take (j + 1) = l.take j ++ [l[j]] from List.take_succ_eq_append_getElem hlt)
      have HM := hide (List.getElem_mem hlt)
      generalize hoo : off + j = o at hc
      generalize l[j] = x at *
      unfold sv at hc
      have HXD := hide (show ((⟨x.toArray⟩ : ByteArray).toList == d.toList) = decide (x = bl d) by rw [toList_bl, toList_bl, bl_of]; by_cases h : x = bl d <;> simp [h])
      have HXE := hide (show (x == d.toList) = decide (x = bl d) by rw [toList_bl]; by_cases h : x = bl d <;> simp [h])
      clear hcell hr
      by_cases h : x = bl d
      · have e1 : ((⟨x.toArray⟩ : ByteArray).toList == d.toList) = true := by rw [HXD.out]; exact decide_eq_true h
        have e2 : (x == d.toList) = true := by rw [HXE.out]; exact decide_eq_true h
        have HE : Hid (R = true) := by rw [Hid, ← hR.out, decide_eq_true_eq, ← h]; exact HM.out
        replace h := hide h
        go_wp2
        go_ret
        exact ⟨ret_bool HE.out.symm, K⟩
      · have e1 : ((⟨x.toArray⟩ : ByteArray).toList == d.toList) = false := by rw [HXD.out]; exact decide_eq_false h
        have e2 : (x == d.toList) = false := by rw [HXE.out]; exact decide_eq_false h
        have HE : Hid (bl d ∉ l.take (j + 1)) := by
          rw [Hid, HT.out, List.mem_append, List.mem_singleton]
          rintro (h1 | h1)
          · exact HA.out h1
          · exact h h1.symm
        replace h := hide h
        clear HA HT HM
        go_wp2
        go_roundw
        case rel => exact ⟨j + 1, by omega, by go_num, HE, K⟩
        case measure => simp [intOf]; omega
    · obtain rfl : j = l.length := by omega
      rw [List.take_length] at HA
      have HE : Hid (R = false) := by rw [Hid, ← hR.out]; exact decide_eq_false HA.out
      go_wp2
      go_ret
      exact ⟨ret_bool HE.out.symm, K⟩
end Go.Proofs.Ytgfaoaabnjblhaa
