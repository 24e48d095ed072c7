/- What Check of layer 6, and the document's, answer, for every input. -/
import Derived.Test.YthoominldliphaaRecMath
import Derived.Test.YthoominldliphaaDataWalk6
import Derived.Test.YthoominldliphaaDataRef4
import Derived.Test.YthoominldliphaaNameRef1
import Derived.Test.YthoominldliphaaCompRef2
import Derived.Test.YthoominldliphaaOctWalk5
namespace Go.Proofs.Ythoominldliphaa
open Go.RowKit

/-- The five cells of a record that was boxed in block G. -/
def Box5 (G : Nat) (p q r s t : Value) (w : World) : Prop :=
  w.cell? ⟨G, 0, none⟩ = some p ∧ w.cell? ⟨G, 1, none⟩ = some q ∧ w.cell? ⟨G, 2, none⟩ = some r ∧ w.cell? ⟨G, 3, none⟩ = some s ∧ w.cell? ⟨G, 4, none⟩ = some t ∧ G < w.heap.size
theorem Box5.keeps {G : Nat} {p q r s t : Value} {w w' : World} (h : Box5 G p q r s t w) (hk : Keeps w w') : Box5 G p q r s t w' :=
  have g := h.2.2.2.2.2
  ⟨(hk.cell (p := ⟨G, 0, none⟩) g).trans h.1, (hk.cell (p := ⟨G, 1, none⟩) g).trans h.2.1, (hk.cell (p := ⟨G, 2, none⟩) g).trans h.2.2.1, (hk.cell (p := ⟨G, 3, none⟩) g).trans h.2.2.2.1, (hk.cell (p := ⟨G, 4, none⟩) g).trans h.2.2.2.2.1, Nat.lt_of_lt_of_le g hk.size⟩
theorem Box5.made (w : World) (p q r s t : Value) (ty : TypeId) : Box5 w.heap.size p q r s t (w.alloc (.cells #[p, q, r, s, t] ty)) := by
  refine ⟨?_, ?_, ?_, ?_, ?_, by simp⟩
  · exact (World.cell?_alloc_mark w _ _ (0, 0) 0).trans rfl
  · exact (World.cell?_alloc_mark w _ _ (0, 0) 1).trans rfl
  · exact (World.cell?_alloc_mark w _ _ (0, 0) 2).trans rfl
  · exact (World.cell?_alloc_mark w _ _ (0, 0) 3).trans rfl
  · exact (World.cell?_alloc_mark w _ _ (0, 0) 4).trans rfl

theorem isNumber_any (x : Int) (w : World) :
    Calls Try.prog 29 #[.int .i64 x] w fun e w' => e = .returned (.bool (num2 x)) ∧ w' = w := by
  by_cases h0 : 0 ≤ x
  · by_cases h1 : x ≤ 65535
    · go_enter Try.func29, Try.ntmps29
      go_wp2
      go_ret
      exact ⟨ret_bool (by simp only [num2]; exact (decide_eq_true (by omega)).symm), rfl⟩
    · go_enter Try.func29, Try.ntmps29
      go_wp2
      go_ret
      exact ⟨ret_bool (by simp only [num2]; exact (decide_eq_false (by omega)).symm), rfl⟩
  · go_enter Try.func29, Try.ntmps29
    go_wp2
    go_ret
    exact ⟨ret_bool (by simp only [num2]; exact (decide_eq_false (by omega)).symm), rfl⟩

set_option maxHeartbeats 2000000 in
theorem rcheck_any (r : Rec) (w : World) (hn : r.n.size ≤ maxLen) (hd : r.d.size ≤ maxLen) :
    Calls Try.prog 11 #[recV r] w fun e w' => e = .returned (.bool (recOk r)) ∧ Keeps w w' := by
  obtain ⟨n, t, c, l, d⟩ := r
  simp only at hn hd
  unfold recV
  have B0 := Box5.made w (.string n) (.int .i64 t) (.int .i64 c) (.int .i64 l) (.string d) 24
  have K := (Keeps.refl w).alloc (.cells #[.string n, .int .i64 t, .int .i64 c, .int .i64 l, .string d] 24)
  cases h1 : Nm.okL (bl n)
  · have HF : Hid (recOk ⟨n, t, c, l, d⟩ = false) := by simp [Hid, recOk, num2, h1]
    go_enter Try.func11, Try.ntmps11
    go_wp2_with fail
    refine (check_any _ _ hn).mono ?_
    rintro e wk ⟨rfl, hw⟩
    subst hw
    rw [h1]
    go_wp2
    go_ret
    exact ⟨ret_bool HF.out.symm, K⟩
  cases h2 : num2 t
  · have HF : Hid (recOk ⟨n, t, c, l, d⟩ = false) := by simp [Hid, recOk, h2]
    go_enter Try.func11, Try.ntmps11
    go_wp2_with fail
    refine (check_any _ _ hn).mono ?_
    rintro e wk ⟨rfl, hw⟩
    subst hw
    rw [h1]
    go_wp2_with fail
    refine (isNumber_any _ _).mono ?_
    rintro e wk ⟨rfl, hw⟩
    subst hw
    rw [h2]
    go_wp2
    go_ret
    exact ⟨ret_bool HF.out.symm, K⟩
  cases h3 : num2 c
  · have HF : Hid (recOk ⟨n, t, c, l, d⟩ = false) := by simp [Hid, recOk, h3]
    go_enter Try.func11, Try.ntmps11
    go_wp2_with fail
    refine (check_any _ _ hn).mono ?_
    rintro e wk ⟨rfl, hw⟩
    subst hw
    rw [h1]
    go_wp2_with fail
    refine (isNumber_any _ _).mono ?_
    rintro e wk ⟨rfl, hw⟩
    subst hw
    rw [h2]
    go_wp2_with fail
    refine (isNumber_any _ _).mono ?_
    rintro e wk ⟨rfl, hw⟩
    subst hw
    rw [h3]
    go_wp2
    go_ret
    exact ⟨ret_bool HF.out.symm, K⟩
  by_cases h4 : ¬ 0 ≤ l
  · have HF : Hid (recOk ⟨n, t, c, l, d⟩ = false) := by simp [Hid, recOk, h4]
    go_enter Try.func11, Try.ntmps11
    go_wp2_with fail
    refine (check_any _ _ hn).mono ?_
    rintro e wk ⟨rfl, hw⟩
    subst hw
    rw [h1]
    go_wp2_with fail
    refine (isNumber_any _ _).mono ?_
    rintro e wk ⟨rfl, hw⟩
    subst hw
    rw [h2]
    go_wp2_with fail
    refine (isNumber_any _ _).mono ?_
    rintro e wk ⟨rfl, hw⟩
    subst hw
    rw [h3]
    go_wp2
    go_ret
    exact ⟨ret_bool HF.out.symm, K⟩
  replace h4 := Decidable.not_not.1 h4
  by_cases h5 : ¬ l ≤ 2147483647
  · have HF : Hid (recOk ⟨n, t, c, l, d⟩ = false) := by simp [Hid, recOk, h5]
    go_enter Try.func11, Try.ntmps11
    go_wp2_with fail
    refine (check_any _ _ hn).mono ?_
    rintro e wk ⟨rfl, hw⟩
    subst hw
    rw [h1]
    go_wp2_with fail
    refine (isNumber_any _ _).mono ?_
    rintro e wk ⟨rfl, hw⟩
    subst hw
    rw [h2]
    go_wp2_with fail
    refine (isNumber_any _ _).mono ?_
    rintro e wk ⟨rfl, hw⟩
    subst hw
    rw [h3]
    go_wp2
    go_ret
    exact ⟨ret_bool HF.out.symm, K⟩
  replace h5 := Decidable.not_not.1 h5
  have HF : Hid (recOk ⟨n, t, c, l, d⟩ = Dt.checkB t (bl d)) := by simp [Hid, recOk, h1, h2, h3, h4, h5]
  go_enter Try.func11, Try.ntmps11
  go_wp2_with fail
  refine (check_any _ _ hn).mono ?_
  rintro e wk ⟨rfl, hw⟩
  subst hw
  rw [h1]
  go_wp2_with fail
  refine (isNumber_any _ _).mono ?_
  rintro e wk ⟨rfl, hw⟩
  subst hw
  rw [h2]
  go_wp2_with fail
  refine (isNumber_any _ _).mono ?_
  rintro e wk ⟨rfl, hw⟩
  subst hw
  rw [h3]
  go_wp2_with fail
  refine (dcheck_any _ _ _ hd).mono ?_
  rintro e wk ⟨rfl, k1⟩
  replace K := K.trans k1
  rw [← HF.out]
  go_wp2
  go_ret
  exact ⟨rfl, K⟩

set_option maxHeartbeats 2000000 in
theorem refrcheck_any (r : Rec) (w : World) (hn : r.n.size ≤ maxLen) (hd : r.d.size ≤ maxLen) :
    Calls Try.prog 12 #[recV r] w fun e w' => e = .returned (.bool (recOk r)) ∧ Keeps w w' := by
  obtain ⟨n, t, c, l, d⟩ := r
  simp only at hn hd
  unfold recV
  have B0 := Box5.made w (.string n) (.int .i64 t) (.int .i64 c) (.int .i64 l) (.string d) 24
  have K := (Keeps.refl w).alloc (.cells #[.string n, .int .i64 t, .int .i64 c, .int .i64 l, .string d] 24)
  cases h1 : Nm.okL (bl n)
  · have HF : Hid (recOk ⟨n, t, c, l, d⟩ = false) := by simp [Hid, recOk, num2, h1]
    go_enter Try.func12, Try.ntmps12
    go_wp2_with fail
    refine (refcheck_any _ _ hn).mono ?_
    rintro e wk ⟨rfl, k1⟩
    replace K := K.trans k1
    obtain ⟨c0, c1, c2, c3, c4, c5⟩ := B0.keeps k1
    clear k1 B0
    rw [h1]
    go_wp2
    go_ret
    exact ⟨ret_bool HF.out.symm, K⟩
  by_cases h2 : ¬ 0 ≤ t
  · have HF : Hid (recOk ⟨n, t, c, l, d⟩ = false) := by simp [Hid, recOk, num2, h2]
    go_enter Try.func12, Try.ntmps12
    go_wp2_with fail
    refine (refcheck_any _ _ hn).mono ?_
    rintro e wk ⟨rfl, k1⟩
    replace K := K.trans k1
    obtain ⟨c0, c1, c2, c3, c4, c5⟩ := B0.keeps k1
    clear k1 B0
    rw [h1]
    go_wp2
    go_ret
    exact ⟨ret_bool HF.out.symm, K⟩
  replace h2 := Decidable.not_not.1 h2
  by_cases h3 : ¬ t ≤ 65535
  · have HF : Hid (recOk ⟨n, t, c, l, d⟩ = false) := by simp [Hid, recOk, num2, h3]
    go_enter Try.func12, Try.ntmps12
    go_wp2_with fail
    refine (refcheck_any _ _ hn).mono ?_
    rintro e wk ⟨rfl, k1⟩
    replace K := K.trans k1
    obtain ⟨c0, c1, c2, c3, c4, c5⟩ := B0.keeps k1
    clear k1 B0
    rw [h1]
    go_wp2
    go_ret
    exact ⟨ret_bool HF.out.symm, K⟩
  replace h3 := Decidable.not_not.1 h3
  by_cases h4 : ¬ 0 ≤ c
  · have HF : Hid (recOk ⟨n, t, c, l, d⟩ = false) := by simp [Hid, recOk, num2, h4]
    go_enter Try.func12, Try.ntmps12
    go_wp2_with fail
    refine (refcheck_any _ _ hn).mono ?_
    rintro e wk ⟨rfl, k1⟩
    replace K := K.trans k1
    obtain ⟨c0, c1, c2, c3, c4, c5⟩ := B0.keeps k1
    clear k1 B0
    rw [h1]
    go_wp2
    go_ret
    exact ⟨ret_bool HF.out.symm, K⟩
  replace h4 := Decidable.not_not.1 h4
  by_cases h5 : ¬ c ≤ 65535
  · have HF : Hid (recOk ⟨n, t, c, l, d⟩ = false) := by simp [Hid, recOk, num2, h5]
    go_enter Try.func12, Try.ntmps12
    go_wp2_with fail
    refine (refcheck_any _ _ hn).mono ?_
    rintro e wk ⟨rfl, k1⟩
    replace K := K.trans k1
    obtain ⟨c0, c1, c2, c3, c4, c5⟩ := B0.keeps k1
    clear k1 B0
    rw [h1]
    go_wp2
    go_ret
    exact ⟨ret_bool HF.out.symm, K⟩
  replace h5 := Decidable.not_not.1 h5
  by_cases h6 : ¬ 0 ≤ l
  · have HF : Hid (recOk ⟨n, t, c, l, d⟩ = false) := by simp [Hid, recOk, num2, h6]
    go_enter Try.func12, Try.ntmps12
    go_wp2_with fail
    refine (refcheck_any _ _ hn).mono ?_
    rintro e wk ⟨rfl, k1⟩
    replace K := K.trans k1
    obtain ⟨c0, c1, c2, c3, c4, c5⟩ := B0.keeps k1
    clear k1 B0
    rw [h1]
    go_wp2
    go_ret
    exact ⟨ret_bool HF.out.symm, K⟩
  replace h6 := Decidable.not_not.1 h6
  by_cases h7 : ¬ l ≤ 2147483647
  · have HF : Hid (recOk ⟨n, t, c, l, d⟩ = false) := by simp [Hid, recOk, num2, h7]
    have h8 : ¬ l < 2147483648 := by omega
    clear h7
    go_enter Try.func12, Try.ntmps12
    go_wp2_with fail
    refine (refcheck_any _ _ hn).mono ?_
    rintro e wk ⟨rfl, k1⟩
    replace K := K.trans k1
    obtain ⟨c0, c1, c2, c3, c4, c5⟩ := B0.keeps k1
    clear k1 B0
    rw [h1]
    go_wp2
    go_ret
    exact ⟨ret_bool HF.out.symm, K⟩
  replace h7 := Decidable.not_not.1 h7
  have h8 : l < 2147483648 := by omega
  have HF : Hid (recOk ⟨n, t, c, l, d⟩ = Dt.checkB t (bl d)) := by simp [Hid, recOk, num2, h1, h2, h3, h4, h5, h6, h7]
  clear h7
  go_enter Try.func12, Try.ntmps12
  go_wp2_with fail
  refine (refcheck_any _ _ hn).mono ?_
  rintro e wk ⟨rfl, k1⟩
  replace K := K.trans k1
  obtain ⟨c0, c1, c2, c3, c4, c5⟩ := B0.keeps k1
  clear k1 B0
  rw [h1]
  go_wp2_with fail
  refine (refcheck5_any _ _ _ hd).mono ?_
  rintro e wk ⟨rfl, k1⟩
  replace K := K.trans k1
  rw [← HF.out]
  go_wp2
  go_ret
  exact ⟨rfl, K⟩
end Go.Proofs.Ythoominldliphaa
