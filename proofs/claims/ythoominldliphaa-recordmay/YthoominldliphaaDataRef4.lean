/- What the document's Expand and Check of layer 5 answer. -/
import Derived.Test.YthoominldliphaaDataRef3
namespace Go.Proofs.Ythoominldliphaa
open Go.RowKit

theorem take_few {l : List UInt8} {p n : Nat} {s : Dt.Sh} (h : n < s.a) : Dt.takeL l p (p + n) s = none := by
  unfold Dt.takeL
  split
  · rename_i hp
    split
    · rfl
    · rename_i ns q hr
      have := (Dt.rds_good l _ _ _ _ hp hr).2.2.1
      rw [if_neg (by omega)]
  · rfl
theorem split_few {l : List UInt8} {p n : Nat} {k : Int} {s : Dt.Sh} (hs : Dt.shp k = some s) (h : n < s.a) : Dt.splitL l p n k = none := by
  unfold Dt.splitL
  split
  · rfl
  · rw [hs]; exact take_few h

set_option maxHeartbeats 2000000 in
set_option maxRecDepth 100000 in
theorem refexp_few (m : ByteArray) (p n : Nat) (k : Int) (s : Dt.Sh) (w : World) (hm : m.size ≤ maxLen) (h : p + n ≤ m.size) (hs : Dt.shp k = some s) (ha : n < s.a) :
    Calls Try.prog 27 #[.string m, .int .i64 p, .int .i64 n, .int .i64 k] w fun e w' => e = .returned (.tuple #[.string (erS (Dt.expL (bl m) p n k)), .int .i64 (Dt.expL (bl m) p n k).e]) ∧ Keeps w w' := by
  have hm' := hm
  unfold maxLen at hm'
  have ho : Oct.takeOk m p n = true := by rw [takeOk_nat]; simpa using h
  have HE := hide (exp_no h (split_few (l := bl m) (p := p) hs ha))
  generalize Dt.expL (bl m) p n k = E at *
  have HO : Hid (shOf k = s) := by simp [Hid, shOf, hs]
  have has := fun w => arr_shape hs w
  clear hs
  go_enter Try.func27, Try.ntmps27
  go_wp2_with fail
  refine (reftake_any _ _ _ _ hm (by omega)).mono ?_
  rintro e w1 ⟨rfl, hw1⟩
  subst hw1
  rw [ho]
  go_wp2_with fail
  refine (refshape_any _ _).mono ?_
  rintro e w2 ⟨rfl, k2⟩
  rw [HO.out]
  unfold shR
  go_wp2
  go_ret2
  exact ⟨by rw [HE.out]; rfl, k2.alloc _⟩

set_option maxHeartbeats 2000000 in
theorem refexp_any (m : ByteArray) (p n k : Int) (w : World) (hm : m.size ≤ 1000000) (hn2 : Oct.takeOk m p n = true → n ≤ 65535) (hp : p ≤ 9223372036854775807) :
    Calls Try.prog 27 #[.string m, .int .i64 p, .int .i64 n, .int .i64 k] w fun e w' => e = .returned (.tuple #[.string (erS (Dt.expL (bl m) p n k)), .int .i64 (Dt.expL (bl m) p n k).e]) ∧ Keeps w w' := by
  have hM : m.size ≤ maxLen := by unfold maxLen; omega
  cases ho : Oct.takeOk m p n
  · have HE := hide (exp_out (k := k) ho)
    generalize Dt.expL (bl m) p n k = E at *
    go_enter Try.func27, Try.ntmps27
    go_wp2_with fail
    refine (reftake_any _ _ _ _ hM hp).mono ?_
    rintro e w1 ⟨rfl, hw1⟩
    subst hw1
    rw [ho]
    go_wp2
    go_ret2
    exact ⟨by rw [HE.out]; rfl, Keeps.refl _⟩
  · have hn := hn2 ho
    have h2 := ho
    simp only [Oct.takeOk, decide_eq_true_eq] at h2
    obtain ⟨p', rfl⟩ := Int.eq_ofNat_of_zero_le h2.1
    obtain ⟨n', rfl⟩ := Int.eq_ofNat_of_zero_le h2.2.1
    have h : p' + n' ≤ m.size := by omega
    cases hs : Dt.shp k with
    | some s =>
      by_cases ha : n' < s.a
      · exact refexp_few m p' n' k s w hM h hs ha
      · exact refexp_shape m p' n' k s _ w hm h (by omega) hs (by omega) (hide rfl)
    | none =>
      by_cases hk : k = 16
      · subst hk
        exact refexp_texts m p' n' w hM h (by omega)
      · exact refexp_plain m p' n' k w hM h (by omega) hs hk

theorem check_long {k : Int} {d : List UInt8} (h : 65535 < d.length) : Dt.checkB k d = false := by
  have : Dt.splitL d 0 d.length k = none := by rw [Dt.splitL, if_pos h]
  rw [Dt.checkB, Dt.wholeL, this]; rfl
theorem check_exp {k : Int} (d : ByteArray) : Dt.checkB k (bl d) = (decide ((Dt.expL (bl d) 0 d.size k).e = 0) && decide (erS (Dt.expL (bl d) 0 d.size k) = d)) := by
  have e0 := @exp_no d 0 d.size k (by omega)
  have e1 := fun x => @exp_yes d 0 d.size k x (by omega)
  rw [Dt.checkB]
  rcases Option.eq_none_or_eq_some (Dt.splitL (bl d) 0 d.size k) with h | ⟨x, h⟩
  · have e := e0 h
    rw [Int.ofNat_zero] at e
    rw [e, whole_split h]; simp
  · have e := e1 x h
    rw [Int.ofNat_zero] at e
    rw [e]
    by_cases hj : joinP x = d
    · rw [whole_same h hj]
      have : erS ⟨x.join, 0⟩ = d := hj
      simp [this]
    · rw [whole_other h hj]
      have : ¬ erS ⟨x.join, 0⟩ = d := hj
      simp [this]

set_option maxHeartbeats 2000000 in
theorem refcheck5_any (k : Int) (d : ByteArray) (w : World) (hm : d.size ≤ maxLen) :
    Calls Try.prog 31 #[.int .i64 k, .string d] w fun e w' => e = .returned (.bool (Dt.checkB k (bl d))) ∧ Keeps w w' := by
  by_cases hl : (65535 : Int) < (d.size : Int)
  · rw [check_long (by rw [bl_length]; omega)]
    go_enter Try.func31, Try.ntmps31
    go_wp2
    go_ret
    exact ⟨rfl, Keeps.refl _⟩
  · rw [check_exp d]
    have hC := fun W => refexp_any d 0 d.size k W (by omega) (fun _ => by omega) (by omega)
    generalize Dt.expL (bl d) 0 d.size k = Y at *
    have HC := hide hC
    clear hC
    generalize hE : Y.e = E at *
    generalize hX : erS Y = X at *
    clear hE hX
    go_enter Try.func31, Try.ntmps31
    go_wp2_with fail
    refine (HC.out _).mono ?_
    rintro e w1 ⟨rfl, k1⟩
    clear HC
    by_cases h0 : E = 0
    · subst h0
      by_cases hj : X = d
      · subst hj
        go_wp2
        go_ret
        exact ⟨by simp, k1⟩
      · have hne : (X.toList == d.toList) = false := by
          rw [toList_bl, toList_bl, beq_eq_false_iff_ne]
          exact fun e => hj (bl_inj e)
        have HD : Hid ((decide (0 = 0) && decide (X = d)) = false) := by simp [Hid, hj]
        clear hj
        go_wp2
        go_ret
        exact ⟨ret_bool HD.out.symm, k1⟩
    · have h1 : ((E : Int) == 0) = false := by rw [beq_eq_false_iff_ne]; omega
      have HD : Hid ((decide (E = 0) && decide (X = d)) = false) := by simp [Hid, h0]
      clear h0
      go_wp2
      go_ret
      exact ⟨ret_bool HD.out.symm, k1⟩
end Go.Proofs.Ythoominldliphaa
