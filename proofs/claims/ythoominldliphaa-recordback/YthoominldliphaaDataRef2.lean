/- What the document's Expand and Check of layer 5 answer. -/
import Derived.Test.YthoominldliphaaDataRef1
namespace Go.Proofs.Ythoominldliphaa
open Go.RowKit

theorem arr_zero (w : World) : (Op.equalIn 10000 68 (.agg #[.int .i64 0, .int .i64 0, .int .i64 0]) (.agg #[.int .i64 0, .int .i64 0, .int .i64 0])).run Try.prog w = .ok true w := by kernel_rfl
theorem arr_shape {k : Int} {s : Dt.Sh} (hs : Dt.shp k = some s) (w : World) : (Op.equalIn 10000 68 (.agg #[.int .i64 s.a, .int .i64 s.n, .int .i64 s.b]) (.agg #[.int .i64 0, .int .i64 0, .int .i64 0])).run Try.prog w = .ok false w := by
  unfold Dt.shp at hs
  repeat' split at hs
  all_goals first | (cases hs; done) | (cases hs; kernel_rfl)

set_option maxHeartbeats 2000000 in
set_option maxRecDepth 100000 in
theorem refexp_plain (m : ByteArray) (p n : Nat) (k : Int) (w : World) (hm : m.size ≤ maxLen) (h : p + n ≤ m.size) (hn : n ≤ 65535) (hs : Dt.shp k = none) (hk : ¬ k = 16) :
    Calls Try.prog 27 #[.string m, .int .i64 p, .int .i64 n, .int .i64 k] w fun e w' => e = .returned (.tuple #[.string (erS (Dt.expL (bl m) p n k)), .int .i64 (Dt.expL (bl m) p n k).e]) ∧ Keeps w w' := by
  have hm' := hm
  unfold maxLen at hm'
  have ho : Oct.takeOk m p n = true := by rw [takeOk_nat]; simpa using h
  have hsp : Dt.splitL (bl m) p n k = some ⟨Dt.part (bl m) p n, [], []⟩ := by
    rw [Dt.splitL, if_neg (by omega), hs]
    exact if_neg (fun h => hk h.1)
  have HE := hide (exp_yes h hsp)
  have HA := hide (takeS_nat m p n h)
  have hsz := Oct.takeS_size m p n ho
  have HO : Hid (shOf k = ⟨0, 0, 0⟩) := by simp [Hid, shOf, hs]
  have hk2 : (k == 16) = false := beq_eq_false_iff_ne.2 hk
  clear hsp hs hk
  generalize Dt.expL (bl m) p n k = E at *
  go_enter Try.func27, Try.ntmps27
  go_wp2_with fail
  refine (reftake_any _ _ _ _ hm (by omega)).mono ?_
  rintro e w1 ⟨rfl, hw1⟩
  subst hw1
  rw [ho]
  generalize Oct.takeS m p n = A at *
  go_wp2_with fail
  refine (refshape_any _ _).mono ?_
  rintro e w2 ⟨rfl, k2⟩
  rw [HO.out]
  unfold shR
  have haz := arr_zero
  have hsz2 : ¬ 65535 < (A.size : Int) := by omega
  have HD : Hid (erS E = A) := by
    unfold Hid
    rw [HE.out]
    apply bl_inj
    rw [HA.out, erS, bl_mk]
    simp [Dt.Pt.join]
  clear hsz
  go_wp2
  go_ret2
  exact ⟨ret_str_int HD.out.symm (by rw [HE.out]; rfl), k2.alloc _⟩

set_option maxHeartbeats 2000000 in
set_option maxRecDepth 100000 in
theorem refexp_texts (m : ByteArray) (p n : Nat) (w : World) (hm : m.size ≤ maxLen) (h : p + n ≤ m.size) (hn : n ≤ 65535) :
    Calls Try.prog 27 #[.string m, .int .i64 p, .int .i64 n, .int .i64 16] w fun e w' => e = .returned (.tuple #[.string (erS (Dt.expL (bl m) p n 16)), .int .i64 (Dt.expL (bl m) p n 16).e]) ∧ Keeps w w' := by
  have hm' := hm
  unfold maxLen at hm'
  have ho : Oct.takeOk m p n = true := by rw [takeOk_nat]; simpa using h
  have hs : Dt.shp 16 = none := by decide
  have hA := takeS_nat m p n h
  have hsz := Oct.takeS_size m p n ho
  have HO : Hid (shOf 16 = ⟨0, 0, 0⟩) := by unfold Hid; decide
  have haz := arr_zero
  cases hb : Dt.textsB (Dt.part (bl m) p n)
  · have hsp : Dt.splitL (bl m) p n 16 = none := by
      rw [Dt.splitL, if_neg (by omega), hs]
      exact if_pos ⟨rfl, hb⟩
    have HE := hide (exp_no h hsp)
    have HB : Hid (Dt.textsB (bl (Oct.takeS m p n)) = false) := by unfold Hid; rw [hA]; exact hb
    clear hsp hs hb hA
    generalize Dt.expL (bl m) p n 16 = E at *
    go_enter Try.func27, Try.ntmps27
    go_wp2_with fail
    refine (reftake_any _ _ _ _ hm (by omega)).mono ?_
    rintro e w1 ⟨rfl, hw1⟩
    subst hw1
    rw [ho]
    generalize Oct.takeS m p n = A at *
    go_wp2_with fail
    refine (refshape_any _ _).mono ?_
    rintro e w2 ⟨rfl, k2⟩
    rw [HO.out]
    unfold shR
    go_wp2_with fail
    refine (reftexts_any _ _ (by omega)).mono ?_
    rintro e w3 ⟨rfl, hw3⟩
    subst hw3
    rw [HB.out]
    go_wp2
    go_ret2
    exact ⟨by rw [HE.out]; rfl, k2.alloc _⟩
  · have hsp : Dt.splitL (bl m) p n 16 = some ⟨Dt.part (bl m) p n, [], []⟩ := by
      rw [Dt.splitL, if_neg (by omega), hs]
      exact if_neg (fun h => by rw [hb] at h; simp at h)
    have HE := hide (exp_yes h hsp)
    have HB : Hid (Dt.textsB (bl (Oct.takeS m p n)) = true) := by unfold Hid; rw [hA]; exact hb
    have HA := hide hA
    clear hsp hs hb hA
    generalize Dt.expL (bl m) p n 16 = E at *
    go_enter Try.func27, Try.ntmps27
    go_wp2_with fail
    refine (reftake_any _ _ _ _ hm (by omega)).mono ?_
    rintro e w1 ⟨rfl, hw1⟩
    subst hw1
    rw [ho]
    generalize Oct.takeS m p n = A at *
    have hsz2 : ¬ 65535 < (A.size : Int) := by omega
    have HD : Hid (erS E = A) := by
      unfold Hid
      rw [HE.out]
      apply bl_inj
      rw [HA.out, erS, bl_mk]
      simp [Dt.Pt.join]
    go_wp2_with fail
    refine (refshape_any _ _).mono ?_
    rintro e w2 ⟨rfl, k2⟩
    rw [HO.out]
    unfold shR
    go_wp2_with fail
    refine (reftexts_any _ _ (by omega)).mono ?_
    rintro e w3 ⟨rfl, hw3⟩
    subst hw3
    rw [HB.out]
    clear hsz
    go_wp2
    go_ret2
    exact ⟨ret_str_int HD.out.symm (by rw [HE.out]; rfl), k2.alloc _⟩
end Go.Proofs.Ythoominldliphaa
