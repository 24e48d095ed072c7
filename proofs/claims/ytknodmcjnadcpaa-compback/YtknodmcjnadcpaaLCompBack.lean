/- CompBack answers true, for every input: the walk. -/
import Derived.Test.YtknodmcjnadcpaaCompLive
namespace Go.Proofs.Ytknodmcjnadcpaa
open Go.RowKit

theorem isEmpty_bl (X : ByteArray) (h : 0 < (bl X).length) : X.toList.isEmpty = false := by
  rw [toList_bl, List.isEmpty_eq_false_iff, ← List.length_pos_iff]; exact h

set_option maxHeartbeats 1600000 in
theorem CompBack_walk (b a n : ByteArray) (w : World) (hb : b.size ≤ maxLen) (ha : a.size ≤ maxLen) (hn : n.size ≤ maxLen) :
    Calls Try.prog 5 #[.string b, .string a, .string n] w fun e w' => e = .returned (.bool true) ∧ Keeps w w' := by
  have hb' := hb
  have hn' := hn
  have ha' := ha
  unfold maxLen at hb' hn' ha'
  by_cases l1 : 300 < (b.size : Int)
  · go_enter Try.func5, Try.ntmps5
    go_wp2_with (go_at_call 9; refine (live4_any _).mono ?_; rintro e w3 ⟨rfl, k3⟩)
    go_ret
    exact ⟨rfl, by assumption⟩
  by_cases l2 : 300 < (n.size : Int)
  · go_enter Try.func5, Try.ntmps5
    go_wp2_with (go_at_call 9; refine (live4_any _).mono ?_; rintro e w3 ⟨rfl, k3⟩)
    go_ret
    exact ⟨rfl, by assumption⟩
  by_cases l3 : 100 < (a.size : Int)
  · go_enter Try.func5, Try.ntmps5
    go_wp2_with (go_at_call 9; refine (live4_any _).mono ?_; rintro e w3 ⟨rfl, k3⟩)
    go_ret
    exact ⟨rfl, by assumption⟩
  cases h1 : Nm.okL (bl b)
  · have HW := hide (wrS_no (base := b) (p := (a.size : Int)) (n := n) (by simp [Cm.wrOk, h1]))
    go_enter Try.func5, Try.ntmps5
    go_wp2_with fail
    refine (write_any _ _ _ _ hb hn).mono ?_
    rintro e wk1 ⟨rfl, k1⟩
    rw [HW.out]
    go_wp2_with fail
    refine (refcheck_any _ _ hb).mono ?_
    rintro e wk2 ⟨rfl, k2⟩
    rw [h1]
    go_wp2_with fail
    refine (live4_any _).mono ?_
    rintro e wk3 ⟨rfl, k3⟩
    go_wp2
    go_ret
    exact ⟨rfl, (k1.trans k2).trans k3⟩
  cases h2 : Nm.okL (bl n)
  · have HW := hide (wrS_no (base := b) (p := (a.size : Int)) (n := n) (by simp [Cm.wrOk, h2]))
    go_enter Try.func5, Try.ntmps5
    go_wp2_with fail
    refine (write_any _ _ _ _ hb hn).mono ?_
    rintro e wk1 ⟨rfl, k1⟩
    rw [HW.out]
    go_wp2_with fail
    refine (refcheck_any _ _ hb).mono ?_
    rintro e wk2 ⟨rfl, k2⟩
    rw [h1]
    go_wp2_with fail
    refine (refcheck_any _ _ hn).mono ?_
    rintro e wk3 ⟨rfl, k3⟩
    rw [h2]
    go_wp2_with fail
    refine (live4_any _).mono ?_
    rintro e wk4 ⟨rfl, k4⟩
    go_wp2
    go_ret
    exact ⟨rfl, ((k1.trans k2).trans k3).trans k4⟩
  have hW : bl (wrS b a.size n) = Cm.wrL (bl b) a.size (bl n) := by
    rw [wrS, if_pos ((wrOk_spec _ _ _).2 ⟨⟨h1, h2⟩, by omega, by omega⟩), Int.toNat_natCast]
    exact bl_mk _
  generalize hWd : wrS b a.size n = W at *
  have HWd := hide hWd
  clear hWd
  have hM : bl (a ++ b ++ W ++ ⟨#[122]⟩) = bl a ++ bl b ++ Cm.wrL (bl b) a.size (bl n) ++ [122] := by
    rw [bl_append, bl_append, bl_append, hW]; rfl
  have d1 : (bl (a ++ b ++ W ++ ⟨#[122]⟩)).drop a.size = bl b ++ (Cm.wrL (bl b) a.size (bl n) ++ [122]) := by
    rw [hM, List.append_assoc, List.append_assoc, List.drop_append_of_le_length (by rw [bl_length]; exact Nat.le_refl _), List.drop_of_length_le (by rw [bl_length]; exact Nat.le_refl _), List.nil_append]
  have d2 : (bl (a ++ b ++ W ++ ⟨#[122]⟩)).drop (a.size + b.size) = Cm.wrL (bl b) a.size (bl n) ++ [122] := by
    rw [← List.drop_drop, d1, List.drop_append_of_le_length (by rw [bl_length]; exact Nat.le_refl _), List.drop_of_length_le (by rw [bl_length]; exact Nat.le_refl _), List.nil_append]
  have r1 := Cm.read_whole _ _ _ _ h1 d1
  obtain ⟨k, r2, r3, r4, r5⟩ := Cm.read_written _ (bl b) (bl n) a.size (a.size + b.size) _ _ h1 h2 (by omega) d1 (by rw [bl_length]; exact Nat.le_refl _) d2
  rw [← hW] at r2 r4 r5
  have hem := isEmpty_bl W r5
  rw [bl_length] at r2
  rw [bl_length, bl_length] at r4
  rw [bl_length] at r1
  have hmsz : (a ++ b ++ W ++ ⟨#[122]⟩).size = a.size + b.size + W.size + 1 := by
    rw [ByteArray.size_append, ByteArray.size_append, ByteArray.size_append]; rfl
  have hmm : (a ++ b ++ W ++ ⟨#[122]⟩).size ≤ maxLen := by rw [hmsz]; unfold maxLen; omega
  have hks : (rrS ⟨k, a.size + b.size + W.size, 0⟩).size ≤ maxLen := by
    have e1 : bl (rrS ⟨k, a.size + b.size + W.size, 0⟩) = k := bl_mk k
    rw [← bl_length, e1]
    have := Cm.same_length r3
    rw [this, bl_length]; exact hn
  have HS : Hid (Nm.sameB (bl (rrS ⟨k, a.size + b.size + W.size, 0⟩)) (bl n) = true) := by
    have e1 : bl (rrS ⟨k, a.size + b.size + W.size, 0⟩) = k := bl_mk k
    unfold Hid; rw [e1]; exact r3
  have HB0 : Hid (rrS ⟨bl b, a.size + b.size, 0⟩ = b) := by unfold Hid; apply bl_inj; exact bl_mk _
  have R1 := hide r1
  have R2 : Hid (Cm.readL (bl (a ++ b ++ W ++ ⟨#[122]⟩)) ((a.size : Int) + (b.size : Int)) = ⟨k, a.size + b.size + W.size, 0⟩) := by
    unfold Hid; rw [← r2]; congr 1
  have a1 : ∀ w, (Op.stringOp .add a b).run Try.prog w = .ok (.string (a ++ b)) w := fun w => run_string_add_sum w _ _ (by omega)
  have a2 : ∀ w, (Op.stringOp .add (a ++ b) W).run Try.prog w = .ok (.string (a ++ b ++ W)) w := fun w => run_string_add_sum w _ _ (by rw [ByteArray.size_append]; omega)
  have a3 : ∀ w, (Op.stringOp .add (a ++ b ++ W) ⟨#[122]⟩).run Try.prog w = .ok (.string (a ++ b ++ W ++ ⟨#[122]⟩)) w := fun w => run_string_add_sum w _ _ (by rw [ByteArray.size_append, ByteArray.size_append, show (⟨#[122]⟩ : ByteArray).size = 1 from rfl]; omega)
  clear hW hM d1 d2 r1 r2 r3 r5
  generalize a ++ b ++ W ++ ⟨#[122]⟩ = M at *
  generalize hK : rrS ⟨k, a.size + b.size + W.size, 0⟩ = K at *
  have HK := hide hK
  clear hK
  go_enter Try.func5, Try.ntmps5
  go_wp2_with fail
  refine (write_any _ _ _ _ hb hn).mono ?_
  rintro e wk1 ⟨rfl, k1⟩
  rw [HWd.out]
  go_wp2_with fail
  refine (refcheck_any _ _ hb).mono ?_
  rintro e wk2 ⟨rfl, k2⟩
  rw [h1]
  go_wp2_with fail
  refine (refcheck_any _ _ hn).mono ?_
  rintro e wk3 ⟨rfl, k3⟩
  rw [h2]
  go_wp2_with fail
  refine (read_any _ _ _ hmm (by omega)).mono ?_
  rintro e wk4 ⟨rfl, k4⟩
  rw [R1.out, HB0.out, show Cm.RR.next ⟨bl b, a.size + b.size, 0⟩ = a.size + b.size from rfl, show Cm.RR.e ⟨bl b, a.size + b.size, 0⟩ = 0 from rfl]
  go_wp2_with fail
  refine (read_any _ _ _ hmm (by omega)).mono ?_
  rintro e wk5 ⟨rfl, k5⟩
  rw [R2.out, HK.out, show Cm.RR.next ⟨k, a.size + b.size + W.size, 0⟩ = a.size + b.size + W.size from rfl, show Cm.RR.e ⟨k, a.size + b.size + W.size, 0⟩ = 0 from rfl]
  go_wp2_with fail
  refine (refsame_any _ _ _ hks hn).mono ?_
  rintro e wk6 ⟨rfl, k6⟩
  rw [HS.out]
  go_wp2_with fail
  refine (live4_any _).mono ?_
  rintro e wk7 ⟨rfl, k7⟩
  go_wp2
  go_ret
  exact ⟨rfl, (((((k1.trans k2).trans k3).trans k4).trans k5).trans k6).trans k7⟩
end Go.Proofs.Ytknodmcjnadcpaa
