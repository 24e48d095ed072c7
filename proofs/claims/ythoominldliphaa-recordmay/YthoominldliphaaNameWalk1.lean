/- What name.Check, firstEnd, Up answer, for every input. -/
import Derived.Test.YthoominldliphaaRows
import Derived.Test.YthoominldliphaaAid
import Derived.Test.YthoominldliphaaNameMath
namespace Go.Proofs.Ythoominldliphaa
open Go.RowKit

/-- A text's bytes. -/
def bl (n : ByteArray) : List UInt8 := n.data.toList
theorem bl_length (n : ByteArray) : (bl n).length = n.size := by simp [bl]
theorem bl_get (n : ByteArray) (i : Nat) (h : i < n.size) : (bl n)[i]'(by rw [bl_length]; exact h) = n[i] := rfl
theorem bl_drop (n : ByteArray) (i : Nat) (h : i < n.size) : (bl n).drop i = n[i] :: (bl n).drop (i + 1) := by
  rw [← bl_get n i h]
  exact List.drop_eq_getElem_cons _
theorem bl_extract (n : ByteArray) (a b : Nat) : bl (n.extract a b) = ((bl n).drop a).take (b - a) := by
  simp [bl, ByteArray.data_extract, List.extract_eq_take_drop]
theorem bl_from (n : ByteArray) (a : Nat) : bl (n.extract a n.size) = (bl n).drop a := by
  rw [bl_extract, List.take_of_length_le (by rw [List.length_drop, bl_length]; omega)]
theorem bl_mk (l : List UInt8) : bl ⟨l.toArray⟩ = l := by simp [bl]
theorem bl_inj {a b : ByteArray} (h : bl a = bl b) : a = b := by
  apply ByteArray.ext
  apply Array.ext'
  exact h
theorem toList_bl (a : ByteArray) : a.toList = bl a := ByteArray.toList_eq a

theorem u8_ne {c : UInt8} : (((c.toNat : Int) != 0) = true) ↔ c ≠ 0 := by
  simp [bne_iff_ne]
  constructor
  · intro h e; subst e; simp at h
  · intro h e; exact h (UInt8.toNat_inj.1 (by simpa using e))

theorem chk_at_zero (n : ByteArray) (a : Nat) (h : a < n.size) (h0 : n[a] = 0) : Nm.chk (n.size + 1) ((bl n).drop a) = ((a : Int) == (n.size : Int) - 1) := by
  rw [bl_drop n a h, h0]
  simp only [Nm.chk, if_true]
  rw [Bool.eq_iff_iff, List.isEmpty_iff, beq_iff_eq, ← List.length_eq_zero_iff, List.length_drop, bl_length]
  omega
theorem chk_at_big (n : ByteArray) (a : Nat) (h : a < n.size) (h0 : n[a] ≠ 0) (h63 : (63 : Int) < n[a].toNat) : Nm.chk (n.size + 1) ((bl n).drop a) = false := by
  rw [bl_drop n a h]
  simp only [Nm.chk, h0, if_false, Bool.and_eq_false_iff, decide_eq_false_iff_not]
  exact .inl (by omega)
theorem chk_at_step (n : ByteArray) (a : Nat) (h : a < n.size) (h0 : n[a] ≠ 0) (h63 : ¬ (63 : Int) < n[a].toNat) : Nm.chk (n.size + 1) ((bl n).drop a) = Nm.chk (n.size + 1) ((bl n).drop (a + (1 + n[a].toNat))) := by
  rw [bl_drop n a h, Nm.chk_cons h0 (by omega), List.drop_drop]
  rw [show a + 1 + n[a].toNat = a + (1 + n[a].toNat) by omega]
  exact Nm.chk_fuel _ _ _ (by rw [List.length_drop, bl_length]; omega) (by rw [List.length_drop, bl_length]; omega)
theorem chk_at_end (n : ByteArray) (a : Nat) (h : ¬ a < n.size) : Nm.chk (n.size + 1) ((bl n).drop a) = ((a : Int) == (n.size : Int) - 1) := by
  rw [List.drop_of_length_le (by rw [bl_length]; omega)]
  symm
  rw [show Nm.chk (n.size + 1) [] = false from rfl, beq_eq_false_iff_ne]
  omega

theorem check_any (n : ByteArray) (w : World) (hn : n.size ≤ maxLen) :
    Calls Try.prog 28 #[.string n] w fun e w' => e = .returned (.bool (Nm.okL (bl n))) ∧ w' = w := by
  unfold maxLen at hn
  by_cases hl : 255 < (n.size : Int)
  · go_enter Try.func28, Try.ntmps28
    go_wp2
    go_ret
    exact ⟨ret_bool (by simp [Nm.okL, bl_length]; omega), rfl⟩
  · have hok : Nm.okL (bl n) = Nm.chk (n.size + 1) (bl n) := by simp [Nm.okL, bl_length]; omega
    have HO := hide hok
    clear hok
    go_enter Try.func28, Try.ntmps28
    go_wp2
    go_loop [3] (fun i => ∃ a : Nat, a ≤ n.size + 64 ∧ i = .int .i64 a ∧ Nm.chk (n.size + 1) (bl n) = Nm.chk (n.size + 1) ((bl n).drop a)) (fun i => n.size + 64 - (intOf i).toNat)
    case atStart => exact ⟨0, by omega, rfl, rfl⟩
    case round =>
      obtain ⟨a, ha, rfl, hchk⟩ := hrel
      have HC := hide hchk
      clear hchk
      by_cases hlt : a < n.size
      · have hc := UInt8.toNat_lt n[a]
        by_cases h0 : n[a] = 0
        · have z : ((n[a].toNat : Int) != 0) = false := by rw [h0]; rfl
          have E := hide (chk_at_zero n a hlt h0)
          clear h0
          go_wp2
          go_ret
          exact ⟨ret_bool (by rw [HO.out, HC.out, E.out]), rfl⟩
        · have z : ((n[a].toNat : Int) != 0) = true := u8_ne.2 h0
          by_cases h63 : (63 : Int) < n[a].toNat
          · have E := hide (chk_at_big n a hlt h0 h63)
            clear h0
            go_wp2
            go_ret
            exact ⟨ret_bool (by rw [HO.out, HC.out, E.out]), rfl⟩
          · have E := hide (chk_at_step n a hlt h0 h63)
            clear h0
            go_wp2
            go_round
            case rel => exact ⟨a + (1 + n[a].toNat), by omega, by go_num, by rw [HC.out, E.out]⟩
            case measure => simp [intOf]; omega
      · have E := hide (chk_at_end n a hlt)
        go_wp2
        go_ret
        exact ⟨ret_bool (by rw [HO.out, HC.out, E.out]), rfl⟩

theorem firstEnd_any (n : ByteArray) (w : World) (h : 0 < n.size) :
    Calls Try.prog 60 #[.string n] w fun e w' => e = .returned (.int .i64 ((1 + n[0].toNat : Nat) : Int)) ∧ w' = w := by
  have hc := UInt8.toNat_lt n[0]
  have hi : (0 : Int) < (n.size : Int) := by omega
  go_enter Try.func60, Try.ntmps60
  go_wp2
  go_ret
  exact ⟨ret_int (by omega), rfl⟩

/-- Up, as texts. -/
def upS (n : ByteArray) : ByteArray := if Nm.okL (bl n) = true ∧ bl n ≠ [0] then n.extract (1 + ((bl n).headD 0).toNat) n.size else ⟨#[]⟩
def upOk (n : ByteArray) : Bool := Nm.okL (bl n) && !(bl n == [0])

theorem ok_parts (n : ByteArray) (h : Nm.okL (bl n) = true) (hr : bl n ≠ [0]) :
    ∃ hp : 0 < n.size, n[0] = (bl n).headD 0 ∧ n[0] ≠ 0 ∧ n[0].toNat ≤ 63 ∧ n[0].toNat + 1 < n.size ∧ n.size ≤ 255 ∧ Nm.okL ((bl n).drop (1 + n[0].toNat)) = true := by
  have hk := (Nm.okL_spec _).1 h
  have hp : 0 < n.size := by have := Nm.chk_nonempty hk.2; rw [bl_length] at this; exact this
  have hd := bl_drop n 0 hp
  rw [List.drop_zero] at hd
  rcases Nm.chk_cases hk.2 with e | ⟨k, r, f', hf, e, h0, h63, hlt, hc⟩
  · exact absurd e hr
  · have e1 : n[0] = k := by
      have := hd.symm.trans e
      exact (List.cons.inj this).1
    have e2 : (bl n).headD 0 = k := by rw [e]; rfl
    have hln : (bl n).length = r.length + 1 := by rw [e]; simp
    rw [bl_length] at hln
    refine ⟨hp, by rw [e1, e2], by rw [e1]; exact h0, by rw [e1]; exact h63, by rw [e1]; omega, by rw [← bl_length]; exact hk.1, ?_⟩
    rw [e1, e, Nat.add_comm 1, List.drop_succ_cons, Nm.okL_spec]
    have hrl : (r.drop k.toNat).length ≤ r.length := by simp
    refine ⟨by have := hk.1; rw [bl_length] at this; omega, ?_⟩
    rw [Nm.chk_fuel _ f' _ (by omega) (by rw [bl_length] at hf; omega)]
    exact hc

theorem up_any (n : ByteArray) (w : World) (hn : n.size ≤ maxLen) :
    Calls Try.prog 54 #[.string n] w fun e w' => e = .returned (.tuple #[.string (upS n), .bool (upOk n)]) ∧ w' = w := by
  by_cases h : Nm.okL (bl n) = true
  · by_cases hr : bl n = [0]
    · have e1 : (n.toList == [0]) = true := by rw [toList_bl, hr]; rfl
      have E1 : Hid (upS n = ⟨#[]⟩) := by simp [upS, hr, Hid]
      have E2 : Hid (upOk n = false) := by simp [upOk, hr, Hid]
      clear hr
      go_enter Try.func54, Try.ntmps54
      go_wp2_with (go_at_call 28; refine (check_any _ _ hn).mono ?_; rintro e w' ⟨rfl, rfl⟩)
      go_ret2
      exact ⟨ret_str_bool (by rw [E1.out]) (by rw [E2.out]), rfl⟩
    · obtain ⟨hp, q1, q2, q3, q4, q5, q6⟩ := ok_parts n h hr
      have e1 : (n.toList == [0]) = false := by rw [toList_bl]; simpa using hr
      have E1 : Hid (upS n = n.extract (1 + n[0].toNat) n.size) := by simp [upS, h, hr, q1, Hid]
      have E2 : Hid (upOk n = true) := by simp [upOk, h, hr, Hid]
      clear hr q1 q2 q6
      go_enter Try.func54, Try.ntmps54
      go_wp2_with (first | (go_at_call 28; refine (check_any _ _ hn).mono ?_; rintro e w' ⟨rfl, rfl⟩) | (go_at_call 60; refine (firstEnd_any _ _ hp).mono ?_; rintro e w' ⟨rfl, rfl⟩))
      go_ret2
      exact ⟨ret_str_bool (by rw [E1.out]) (by rw [E2.out]), rfl⟩
  · have E1 : Hid (upS n = ⟨#[]⟩) := by simp [upS, h, Hid]
    have E2 : Hid (upOk n = false) := by simp [upOk, h, Hid]
    go_enter Try.func54, Try.ntmps54
    go_wp2_with (go_at_call 28; refine (check_any _ _ hn).mono ?_; rintro e w' ⟨rfl, rfl⟩)
    go_ret2
    exact ⟨ret_str_bool (by rw [E1.out]) (by rw [E2.out]), rfl⟩
end Go.Proofs.Ythoominldliphaa
