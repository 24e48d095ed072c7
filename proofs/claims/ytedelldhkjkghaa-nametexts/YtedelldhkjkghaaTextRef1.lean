/- What the document's plain and Text answer, for every input. -/
import Derived.Test.YtedelldhkjkghaaNameLive
namespace Go.Proofs.Ytedelldhkjkghaa
open Go.RowKit

theorem refplain_any (r : Int) (w : World) :
    Calls Try.prog 36 #[.int .u8 r] w fun e w' => e = .returned (.bool (Nm.plainI r)) ∧ w' = w := by
  by_cases a1 : 97 ≤ r
  · by_cases a2 : r ≤ 122
    · skip
      have HF : Hid (Nm.plainI r = true) := by simp [Nm.plainI, Hid]; omega
      go_enter Try.func36, Try.ntmps36
      go_wp2
      go_ret
      exact ⟨ret_bool HF.out.symm, rfl⟩
    · have a3 : 65 ≤ r := by omega
      have a4 : ¬ r ≤ 90 := by omega
      have a5 : 48 ≤ r := by omega
      have a6 : ¬ r ≤ 57 := by omega
      have HF : Hid (Nm.plainI r = false) := by simp [Nm.plainI, Hid]; omega
      have e45 : (r == 45) = false := by simp; omega
      have e95 : (r == 95) = false := by simp; omega
      go_enter Try.func36, Try.ntmps36
      go_wp2
      go_ret
      exact ⟨ret_bool HF.out.symm, rfl⟩
  by_cases b1 : 65 ≤ r
  · by_cases b2 : r ≤ 90
    · skip
      have HF : Hid (Nm.plainI r = true) := by simp [Nm.plainI, Hid]; omega
      go_enter Try.func36, Try.ntmps36
      go_wp2
      go_ret
      exact ⟨ret_bool HF.out.symm, rfl⟩
    · by_cases b3 : r = 95
      · skip
        subst b3
        have HF : Hid (Nm.plainI 95 = true) := by unfold Hid; decide
        go_enter Try.func36, Try.ntmps36
        go_wp2
        go_ret
        exact ⟨ret_bool HF.out.symm, rfl⟩
      · have a5 : 48 ≤ r := by omega
        have a6 : ¬ r ≤ 57 := by omega
        have HF : Hid (Nm.plainI r = false) := by simp [Nm.plainI, Hid]; omega
        have e45 : (r == 45) = false := by simp; omega
        have e95 : (r == 95) = false := by simpa using b3
        clear b3
        go_enter Try.func36, Try.ntmps36
        go_wp2
        go_ret
        exact ⟨ret_bool HF.out.symm, rfl⟩
  by_cases c1 : 48 ≤ r
  · by_cases c2 : r ≤ 57
    · skip
      have HF : Hid (Nm.plainI r = true) := by simp [Nm.plainI, Hid]; omega
      go_enter Try.func36, Try.ntmps36
      go_wp2
      go_ret
      exact ⟨ret_bool HF.out.symm, rfl⟩
    · skip
      have HF : Hid (Nm.plainI r = false) := by simp [Nm.plainI, Hid]; omega
      have e45 : (r == 45) = false := by simp; omega
      have e95 : (r == 95) = false := by simp; omega
      go_enter Try.func36, Try.ntmps36
      go_wp2
      go_ret
      exact ⟨ret_bool HF.out.symm, rfl⟩
  · by_cases b3 : r = 45
    · skip
      subst b3
      have HF : Hid (Nm.plainI 45 = true) := by unfold Hid; decide
      go_enter Try.func36, Try.ntmps36
      go_wp2
      go_ret
      exact ⟨ret_bool HF.out.symm, rfl⟩
    · skip
      have HF : Hid (Nm.plainI r = false) := by simp [Nm.plainI, Hid]; omega
      have e45 : (r == 45) = false := by simpa using b3
      have e95 : (r == 95) = false := by simp; omega
      clear b3
      go_enter Try.func36, Try.ntmps36
      go_wp2
      go_ret
      exact ⟨ret_bool HF.out.symm, rfl⟩

theorem escL_take_step (t : ByteArray) (p : Nat) (h : p < t.size) : Nm.escL ((bl t).take (p + 1)) = Nm.escL ((bl t).take p) ++ Nm.escB t[p] := by
  rw [List.take_succ_eq_append_getElem (by rw [bl_length]; exact h), escL_append, bl_get t p h]
  simp [Nm.escL]
theorem escL_take_len (t : ByteArray) (p : Nat) : (Nm.escL ((bl t).take p)).length ≤ 4 * t.size := by
  have h1 := Nm.escL_length ((bl t).take p)
  have h2 : ((bl t).take p).length ≤ t.size := by rw [List.length_take, bl_length]; omega
  omega

theorem esc3_conv (c : UInt8) : #[Value.int .u8 (48 + (c.toNat : Int) / 100), .int .u8 (48 + (c.toNat : Int) / 10 % 10), .int .u8 (48 + (c.toNat : Int) % 10)].toList = ([UInt8.ofNat (48 + c.toNat / 100), UInt8.ofNat (48 + c.toNat / 10 % 10), UInt8.ofNat (48 + c.toNat % 10)] : List UInt8).map bv := by
  obtain ⟨e1, e2, e3⟩ := Nm.esc4_parts c
  simp only [List.map_cons, List.map_nil, bv, e1, e2, e3]
  simp

set_option maxHeartbeats 4000000 in
theorem reftext_some (ls : List (List UInt8)) (n : ByteArray) (w : World) (hn : n.size ≤ maxLen) (h : Nm.okL (bl n) = true) (hls : Nm.labelsL (bl n) = ls) (hr : bl n ≠ [0]) :
    Calls Try.prog 28 #[.string n] w fun e w' => e = .returned (.string ⟨(Nm.textL ls).toArray⟩) ∧ Keeps w w' := by
  have hz : 0 < ls.length := by
    have hu := Nm.up1_ok h hr
    rw [← hls, hu.2.2]; simp
  have hj := Nm.ok_join _ h
  have hsum := (Nm.join_length (Nm.labelsL (bl n))).2
  rw [hj.1, hls] at hsum
  have h255 := ((Nm.okL_spec _).1 h).1
  have hsz : ∀ x ∈ ls, x.length ≤ 63 := fun x hx => label_short n h x (by rw [hls]; exact hx)
  have HSZ := hide hsz
  have HS := hide hsum
  clear hsz hj hsum hr
  go_enter Try.func28, Try.ntmps28
  go_wp2_with fail
  refine (reflabels_any _ _ hn).mono ?_
  rintro e w1 ⟨v, ls', rfl, hown, hls', hle, k1⟩
  rw [h]
  have e2 : ls' = ls := by rw [hls' h, hls]
  subst e2
  obtain ⟨b, off, cap, hv, hb, hc, _⟩ := (hown.read).parts hz
  subst hv
  have HC := hide hc
  have K1 := hide k1
  clear hc hown hls' k1 hls
  have hne : ((ls'.length : Int) == 0) = false := beq_eq_false_iff_ne.2 (by omega)
  go_wp2
  go_loopw [5, 6] (fun s i wr => ∃ (j : Nat) (S : ByteArray), j ≤ ls'.length ∧ i = .int .i64 j ∧ s = .string S ∧ bl S = Nm.textL (ls'.take j) ∧ Below w1.heap.size w1 wr) (fun _ i _ => ls'.length - (intOf i).toNat)
  case atStart => exact ⟨0, ⟨#[]⟩, Nat.zero_le _, rfl, rfl, rfl, Below.refl _ _⟩
  case round =>
    obtain ⟨j, S, hj, rfl, rfl, hS, hbel⟩ := hrel
    have hl1 := textL_length (ls'.take j)
    have hl2 := sum_take_le ls' j
    have hl3 : S.size ≤ 1020 := by have := HS.out; rw [← bl_length, hS]; omega
    have HSS := hide hS
    clear hl1 hl2 hS
    by_cases hlt : j < ls'.length
    · obtain ⟨X, hX⟩ : ∃ X : ByteArray, bl X = ls'[j] := ⟨⟨ls'[j].toArray⟩, bl_mk _⟩
      have hXm : X.size ≤ 63 := by rw [← bl_length, hX]; exact HSZ.out ls'[j] (List.getElem_mem hlt)
      have HXC : Hid (w1.cell? ⟨b, off + j, none⟩ = some (.string X)) := by
        unfold Hid
        rw [← sv_bl, hX]
        exact HC.out j hlt
      have HX := hide hX
      have HT := hide (textL_take ls' j hlt)
      clear hX
      have i1 : (j : Int) < (ls'.length : Int) := by omega
      by_cases h0 : 0 < j
      · obtain ⟨S0, hS0⟩ : ∃ S0 : ByteArray, S0 = S ++ ⟨#[46]⟩ := ⟨_, rfl⟩
        have hS0b : bl S0 = Nm.textL (ls'.take j) ++ [46] := by rw [hS0, ← HSS.out]; simp [bl]
        have HT2 : Hid (Nm.textL (ls'.take (j + 1)) = bl S0 ++ Nm.escL (bl X)) := by
          unfold Hid
          rw [hS0b, HX.out, HT.out, if_pos h0]
        have hS0s : S0.size ≤ 1021 := by rw [hS0, ByteArray.size_append]; have : (⟨#[46]⟩ : ByteArray).size = 1 := rfl; omega
        have hi0 : (0 : Int) < (j : Int) := by omega
        have hq : S ++ ⟨#[46]⟩ = S0 := hS0.symm
        clear HT hS0 hS0b
        go_wp2
        go_loopw [5, 7] (fun s i wr2 => ∃ (q : Nat) (T : ByteArray), q ≤ X.size ∧ i = .int .i64 q ∧ s = .string T ∧ bl T = bl S0 ++ Nm.escL ((bl X).take q) ∧ Below w1.heap.size w1 wr2) (fun _ i _ => X.size - (intOf i).toNat)
        case atStart => exact ⟨0, S0, Nat.zero_le _, rfl, rfl, by simp [Nm.escL], hbel⟩
        case round =>
          obtain ⟨q, T, hqx, rfl, rfl, hT, hbel2⟩ := hrel
          have hcell := (hbel2.cell (p := ⟨b, off + j, none⟩) hb).trans HXC.out
          have hTs : T.size ≤ 1273 := by
            have h1 := escL_take_len X q
            have h2 : (bl T).length = T.size := bl_length T
            rw [hT, List.length_append, bl_length] at h2
            omega
          have HTT := hide hT
          clear hT hbel
          by_cases hlq : q < X.size
          · have hcb := UInt8.toNat_lt X[q]
            have HE := hide (escL_take_step X q hlq)
            have HG : Hid ((bl X).drop q = X[q] :: (bl X).drop (q + 1)) := bl_drop X q hlq
            have i2 : (q : Int) < (X.size : Int) := by omega
            by_cases hpl : Nm.plainI X[q].toNat = true
            · have HB : Hid (Nm.escB X[q] = bl (X.extract q (q + 1))) := by
                unfold Hid
                rw [bl_extract, HG.out, show q + 1 - q = 1 by omega, Nm.escB, if_pos hpl]
                rfl
              have hxs : (X.extract q (q + 1)).size = 1 := by rw [ByteArray.size_extract]; omega
              have hxs' : (X.extract q (q + 1)).size ≤ 1 := by omega
              clear hxs
              go_wp2_with (go_at_call 36; refine (refplain_any _ _).mono ?_; rintro e w' ⟨rfl, rfl⟩)
              go_roundw
              case rel => exact ⟨q + 1, T ++ X.extract q (q + 1), by omega, by go_num, rfl, by rw [HE.out, HB.out, ← List.append_assoc, ← HTT.out]; simp [bl], hbel2⟩
              case measure => simp [intOf]; omega
            · simp only [Bool.not_eq_true] at hpl
              obtain ⟨D, hD⟩ : ∃ D : ByteArray, D = ⟨#[UInt8.ofNat (48 + X[q].toNat / 100), UInt8.ofNat (48 + X[q].toNat / 10 % 10), UInt8.ofNat (48 + X[q].toNat % 10)]⟩ := ⟨_, rfl⟩
              have hcv := fun w => conv_new (P := Try.prog) 37 9 5 Try.underlying37 Try.underlying5 Try.underlying9 _ _ 3 3 rfl (esc3_conv X[q]) w
              have hD' : (⟨[UInt8.ofNat (48 + X[q].toNat / 100), UInt8.ofNat (48 + X[q].toNat / 10 % 10), UInt8.ofNat (48 + X[q].toNat % 10)].toArray⟩ : ByteArray) = D := hD.symm
              rw [hD'] at hcv
              have HB : Hid (Nm.escB X[q] = 92 :: bl D) := by
                unfold Hid
                rw [hD, Nm.escB, if_neg (by rw [hpl]; decide)]
                rfl
              have hDs : D.size ≤ 3 := by rw [hD]; exact Nat.le_refl 3
              clear hD hD'
              go_wp2_with (go_at_call 36; refine (refplain_any _ _).mono ?_; rintro e w' ⟨rfl, rfl⟩)
              go_roundw
              case rel => exact ⟨q + 1, T ++ ⟨#[92]⟩ ++ D, by omega, by go_num, rfl, by rw [HE.out, HB.out, ← List.append_assoc, ← HTT.out]; simp [bl], hbel2.alloc hbel2.size _⟩
              case measure => simp [intOf]; omega
          · have HQ : Hid ((bl X).take q = bl X) := List.take_of_length_le (by rw [bl_length]; omega)
            go_wp2
            go_roundw
            case rel => exact ⟨j + 1, T, by omega, by go_num, rfl, by rw [HTT.out, HQ.out, HT2.out], hbel2⟩
            case measure => simp [intOf]; omega
      · obtain ⟨S0, hS0⟩ : ∃ S0 : ByteArray, S0 = S := ⟨_, rfl⟩
        subst hS0
        have HT2 : Hid (Nm.textL (ls'.take (j + 1)) = bl S0 ++ Nm.escL (bl X)) := by
          unfold Hid
          rw [HX.out, HSS.out, HT.out, if_neg h0, List.append_nil]
        have hi0 : ¬ (0 : Int) < (j : Int) := by omega
        clear HT
        go_wp2
        go_loopw [5, 7] (fun s i wr2 => ∃ (q : Nat) (T : ByteArray), q ≤ X.size ∧ i = .int .i64 q ∧ s = .string T ∧ bl T = bl S0 ++ Nm.escL ((bl X).take q) ∧ Below w1.heap.size w1 wr2) (fun _ i _ => X.size - (intOf i).toNat)
        case atStart => exact ⟨0, S0, Nat.zero_le _, rfl, rfl, by simp [Nm.escL], hbel⟩
        case round =>
          obtain ⟨q, T, hqx, rfl, rfl, hT, hbel2⟩ := hrel
          have hcell := (hbel2.cell (p := ⟨b, off + j, none⟩) hb).trans HXC.out
          have hTs : T.size ≤ 1273 := by
            have h1 := escL_take_len X q
            have h2 : (bl T).length = T.size := bl_length T
            rw [hT, List.length_append, bl_length] at h2
            omega
          have HTT := hide hT
          clear hT hbel
          by_cases hlq : q < X.size
          · have hcb := UInt8.toNat_lt X[q]
            have HE := hide (escL_take_step X q hlq)
            have HG : Hid ((bl X).drop q = X[q] :: (bl X).drop (q + 1)) := bl_drop X q hlq
            have i2 : (q : Int) < (X.size : Int) := by omega
            by_cases hpl : Nm.plainI X[q].toNat = true
            · have HB : Hid (Nm.escB X[q] = bl (X.extract q (q + 1))) := by
                unfold Hid
                rw [bl_extract, HG.out, show q + 1 - q = 1 by omega, Nm.escB, if_pos hpl]
                rfl
              have hxs : (X.extract q (q + 1)).size = 1 := by rw [ByteArray.size_extract]; omega
              have hxs' : (X.extract q (q + 1)).size ≤ 1 := by omega
              clear hxs
              go_wp2_with (go_at_call 36; refine (refplain_any _ _).mono ?_; rintro e w' ⟨rfl, rfl⟩)
              go_roundw
              case rel => exact ⟨q + 1, T ++ X.extract q (q + 1), by omega, by go_num, rfl, by rw [HE.out, HB.out, ← List.append_assoc, ← HTT.out]; simp [bl], hbel2⟩
              case measure => simp [intOf]; omega
            · simp only [Bool.not_eq_true] at hpl
              obtain ⟨D, hD⟩ : ∃ D : ByteArray, D = ⟨#[UInt8.ofNat (48 + X[q].toNat / 100), UInt8.ofNat (48 + X[q].toNat / 10 % 10), UInt8.ofNat (48 + X[q].toNat % 10)]⟩ := ⟨_, rfl⟩
              have hcv := fun w => conv_new (P := Try.prog) 37 9 5 Try.underlying37 Try.underlying5 Try.underlying9 _ _ 3 3 rfl (esc3_conv X[q]) w
              have hD' : (⟨[UInt8.ofNat (48 + X[q].toNat / 100), UInt8.ofNat (48 + X[q].toNat / 10 % 10), UInt8.ofNat (48 + X[q].toNat % 10)].toArray⟩ : ByteArray) = D := hD.symm
              rw [hD'] at hcv
              have HB : Hid (Nm.escB X[q] = 92 :: bl D) := by
                unfold Hid
                rw [hD, Nm.escB, if_neg (by rw [hpl]; decide)]
                rfl
              have hDs : D.size ≤ 3 := by rw [hD]; exact Nat.le_refl 3
              clear hD hD'
              go_wp2_with (go_at_call 36; refine (refplain_any _ _).mono ?_; rintro e w' ⟨rfl, rfl⟩)
              go_roundw
              case rel => exact ⟨q + 1, T ++ ⟨#[92]⟩ ++ D, by omega, by go_num, rfl, by rw [HE.out, HB.out, ← List.append_assoc, ← HTT.out]; simp [bl], hbel2.alloc hbel2.size _⟩
              case measure => simp [intOf]; omega
          · have HQ : Hid ((bl X).take q = bl X) := List.take_of_length_le (by rw [bl_length]; omega)
            go_wp2
            go_roundw
            case rel => exact ⟨j + 1, T, by omega, by go_num, rfl, by rw [HTT.out, HQ.out, HT2.out], hbel2⟩
            case measure => simp [intOf]; omega
    · have HTT : Hid (ls'.take j = ls') := List.take_of_length_le (by omega)
      go_wp2
      go_ret
      exact ⟨ret_str (by apply bl_inj; rw [HSS.out, HTT.out, bl_mk]), K1.out.trans hbel⟩
end Go.Proofs.Ytedelldhkjkghaa
