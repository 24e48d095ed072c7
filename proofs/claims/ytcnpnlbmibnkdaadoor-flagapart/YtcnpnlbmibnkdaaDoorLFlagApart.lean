/- FlagApart answers true, for every input: the walk. The condition: the table of places reads as the program's text lays it. -/
import Derived.Test.YtcnpnlbmibnkdaaDoorFlagLaw
namespace Go.Proofs.YtcnpnlbmibnkdaaDoor
open Go.RowKit

theorem of_b64_FlagApart (f b : Int) : -9223372036854775808 ≤ Fl.of f b ∧ Fl.of f b ≤ 9223372036854775807 := by have := of_bound f b; omega

set_option maxHeartbeats 6400000 in
theorem FlagApart_walk (f b v : Int) (w : World) (T : Tab w) (_ : (-9223372036854775808 ≤ f ∧ f ≤ 9223372036854775807)) (hb : (-9223372036854775808 ≤ b ∧ b ≤ 9223372036854775807)) (hv : (-9223372036854775808 ≤ v ∧ v ≤ 9223372036854775807)) :
    Calls Tryd.prog 4 #[.int .i64 f, .int .i64 b, .int .i64 v] w fun e w' => e = .returned (.bool true) ∧ Keeps w w' := by
  have K := hide (Keeps.refl w)
  have T0 := hide T
  clear T
  cases hm : Fl.may f b v
  · by_cases h0 : b < 0
    · go_enter Tryd.func4, Tryd.ntmps4
      go_wp2_with (first | (go_at_call 8; refine (with_any _ _ _ _ (T0.out.keeps K.out) (by first | exact of_b64_FlagApart _ _ | omega)).mono ?_; rintro e w5 ⟨rfl, k5⟩; replace K := hide (K.out.trans k5); clear k5) | (go_at_call 10; refine (of_any _ _ _ (T0.out.keeps K.out)).mono ?_; rintro e w5 ⟨rfl, k5⟩; replace K := hide (K.out.trans k5); clear k5) | (go_at_call 14; refine (live7_any _ (T0.out.keeps K.out)).mono ?_; rintro e w5 ⟨rfl, k5⟩; replace K := hide (K.out.trans k5); clear k5))
      go_ret
      exact ⟨rfl, K.out⟩
    · by_cases h1 : 65535 < b
      · go_enter Tryd.func4, Tryd.ntmps4
        go_wp2_with (first | (go_at_call 8; refine (with_any _ _ _ _ (T0.out.keeps K.out) (by first | exact of_b64_FlagApart _ _ | omega)).mono ?_; rintro e w5 ⟨rfl, k5⟩; replace K := hide (K.out.trans k5); clear k5) | (go_at_call 10; refine (of_any _ _ _ (T0.out.keeps K.out)).mono ?_; rintro e w5 ⟨rfl, k5⟩; replace K := hide (K.out.trans k5); clear k5) | (go_at_call 14; refine (live7_any _ (T0.out.keeps K.out)).mono ?_; rintro e w5 ⟨rfl, k5⟩; replace K := hide (K.out.trans k5); clear k5))
        go_ret
        exact ⟨rfl, K.out⟩
      · have bb : 0 ≤ b ∧ b ≤ 65535 := by omega
        have a6 : bits .and .i64 b 64 = Fl.acc 0 b := Fl.and_64 bb
        go_enter Tryd.func4, Tryd.ntmps4
        go_wp2_with (first | (go_at_call 8; refine (with_any _ _ _ _ (T0.out.keeps K.out) (by first | exact of_b64_FlagApart _ _ | omega)).mono ?_; rintro e w5 ⟨rfl, k5⟩; replace K := hide (K.out.trans k5); clear k5) | (go_at_call 10; refine (of_any _ _ _ (T0.out.keeps K.out)).mono ?_; rintro e w5 ⟨rfl, k5⟩; replace K := hide (K.out.trans k5); clear k5) | (go_at_call 14; refine (live7_any _ (T0.out.keeps K.out)).mono ?_; rintro e w5 ⟨rfl, k5⟩; replace K := hide (K.out.trans k5); clear k5))
        go_loopw [13, 14] (fun p i wr => ∃ j : Nat, j ≤ 9 ∧ i = .int .i64 j ∧ p = .int .i64 (Fl.acc j b) ∧ Keeps w wr) (fun _ i _ => 9 - (intOf i).toNat)
        case atStart => exact ⟨0, by omega, rfl, rfl, K.out⟩
        case round =>
          clear K
          obtain ⟨j, hj, rfl, rfl, K0⟩ := hrel
          have K := hide K0
          clear K0
          by_cases hlt : j < 9
          · obtain ⟨m1, m2⟩ := Fl.acc_step bb j hlt
            generalize Fl.acc j b = A0 at *
            go_wp2_with (first | (go_at_call 8; refine (with_any _ _ _ _ (T0.out.keeps K.out) (by first | exact of_b64_FlagApart _ _ | omega)).mono ?_; rintro e w5 ⟨rfl, k5⟩; replace K := hide (K.out.trans k5); clear k5) | (go_at_call 10; refine (of_any _ _ _ (T0.out.keeps K.out)).mono ?_; rintro e w5 ⟨rfl, k5⟩; replace K := hide (K.out.trans k5); clear k5) | (go_at_call 14; refine (live7_any _ (T0.out.keeps K.out)).mono ?_; rintro e w5 ⟨rfl, k5⟩; replace K := hide (K.out.trans k5); clear k5))
            go_roundw
            case rel => exact ⟨j + 1, by omega, by go_num, rfl, K.out⟩
            case measure => simp [intOf]; omega
          · obtain rfl : j = 9 := by omega
            have m1 := Fl.acc_end bb
            generalize Fl.acc 9 b = A0 at *
            go_wp2_with (first | (go_at_call 8; refine (with_any _ _ _ _ (T0.out.keeps K.out) (by first | exact of_b64_FlagApart _ _ | omega)).mono ?_; rintro e w5 ⟨rfl, k5⟩; replace K := hide (K.out.trans k5); clear k5) | (go_at_call 10; refine (of_any _ _ _ (T0.out.keeps K.out)).mono ?_; rintro e w5 ⟨rfl, k5⟩; replace K := hide (K.out.trans k5); clear k5) | (go_at_call 14; refine (live7_any _ (T0.out.keeps K.out)).mono ?_; rintro e w5 ⟨rfl, k5⟩; replace K := hide (K.out.trans k5); clear k5))
            go_ret
            exact ⟨rfl, K.out⟩
  · obtain ⟨hF, bb, hV⟩ := Fl.may_iff.1 hm
    have a6 : bits .and .i64 b 64 = Fl.acc 0 b := Fl.and_64 bb
    have p1 := with_yes hm
    have HO := hide (fun g => @Fl.of_lay f g b v hm)
    have n1 := Fl.lay_bound hm
    have n6 : bits .and .i64 (Fl.lay f b v) 64 = Fl.acc 0 b := by rw [Fl.and_64 n1, Fl.lay_64 hm]; rfl
    have q1 := Fl.may_back hm
    have q2 := (with_yes q1).trans (Fl.lay_back hm)
    generalize Fl.lay f b v = A at *
    have h0 : ¬ b < 0 := by omega
    have h1 : ¬ 65535 < b := by omega
    go_enter Tryd.func4, Tryd.ntmps4
    go_wp2_with (first | (go_at_call 8; refine (with_any _ _ _ _ (T0.out.keeps K.out) (by first | exact of_b64_FlagApart _ _ | omega)).mono ?_; rintro e w5 ⟨rfl, k5⟩; replace K := hide (K.out.trans k5); clear k5) | (go_at_call 10; refine (of_any _ _ _ (T0.out.keeps K.out)).mono ?_; rintro e w5 ⟨rfl, k5⟩; replace K := hide (K.out.trans k5); clear k5) | (go_at_call 14; refine (live7_any _ (T0.out.keeps K.out)).mono ?_; rintro e w5 ⟨rfl, k5⟩; replace K := hide (K.out.trans k5); clear k5))
    go_loopw [9] (fun i wr => ∃ j : Nat, j ≤ 9 ∧ i = .int .i64 j ∧ Keeps w wr) (fun i _ => 9 - (intOf i).toNat)
    case atStart => exact ⟨0, by omega, rfl, K.out⟩
    case round =>
      clear K
      obtain ⟨j, hj, rfl, K0⟩ := hrel
      have K := hide K0
      clear K0
      by_cases hlt : j < 9
      · have hFj : Fl.isF (j : Int) = true := by simp [Fl.isF]; omega
        have o1 := HO.out j hFj
        by_cases he : (j : Int) = f
        · rw [if_pos he] at o1
          have he2 : ((j : Int) == f) = true := by rw [he]; simp
          clear he
          go_wp2_with (first | (go_at_call 8; refine (with_any _ _ _ _ (T0.out.keeps K.out) (by first | exact of_b64_FlagApart _ _ | omega)).mono ?_; rintro e w5 ⟨rfl, k5⟩; replace K := hide (K.out.trans k5); clear k5) | (go_at_call 10; refine (of_any _ _ _ (T0.out.keeps K.out)).mono ?_; rintro e w5 ⟨rfl, k5⟩; replace K := hide (K.out.trans k5); clear k5) | (go_at_call 14; refine (live7_any _ (T0.out.keeps K.out)).mono ?_; rintro e w5 ⟨rfl, k5⟩; replace K := hide (K.out.trans k5); clear k5))
          go_roundw
          case rel => exact ⟨j + 1, by omega, by go_num, K.out⟩
          case measure => simp [intOf]; omega
        · rw [if_neg he] at o1
          have he2 : ((j : Int) == f) = false := beq_eq_false_iff_ne.2 he
          clear he
          go_wp2_with (first | (go_at_call 8; refine (with_any _ _ _ _ (T0.out.keeps K.out) (by first | exact of_b64_FlagApart _ _ | omega)).mono ?_; rintro e w5 ⟨rfl, k5⟩; replace K := hide (K.out.trans k5); clear k5) | (go_at_call 10; refine (of_any _ _ _ (T0.out.keeps K.out)).mono ?_; rintro e w5 ⟨rfl, k5⟩; replace K := hide (K.out.trans k5); clear k5) | (go_at_call 14; refine (live7_any _ (T0.out.keeps K.out)).mono ?_; rintro e w5 ⟨rfl, k5⟩; replace K := hide (K.out.trans k5); clear k5))
          go_roundw
          case rel => exact ⟨j + 1, by omega, by go_num, K.out⟩
          case measure => simp [intOf]; omega
      · obtain rfl : j = 9 := by omega
        go_wp2_with (first | (go_at_call 8; refine (with_any _ _ _ _ (T0.out.keeps K.out) (by first | exact of_b64_FlagApart _ _ | omega)).mono ?_; rintro e w5 ⟨rfl, k5⟩; replace K := hide (K.out.trans k5); clear k5) | (go_at_call 10; refine (of_any _ _ _ (T0.out.keeps K.out)).mono ?_; rintro e w5 ⟨rfl, k5⟩; replace K := hide (K.out.trans k5); clear k5) | (go_at_call 14; refine (live7_any _ (T0.out.keeps K.out)).mono ?_; rintro e w5 ⟨rfl, k5⟩; replace K := hide (K.out.trans k5); clear k5))
        go_loopw [13, 14] (fun p i wr => ∃ j : Nat, j ≤ 9 ∧ i = .int .i64 j ∧ p = .int .i64 (Fl.acc j b) ∧ Keeps w wr) (fun _ i _ => 9 - (intOf i).toNat)
        case atStart => exact ⟨0, by omega, rfl, rfl, K.out⟩
        case round =>
          clear K
          obtain ⟨j, hj, rfl, rfl, K0⟩ := hrel
          have K := hide K0
          clear K0
          by_cases hlt : j < 9
          · obtain ⟨m1, m2⟩ := Fl.acc_step bb j hlt
            generalize Fl.acc j b = A0 at *
            go_wp2_with (first | (go_at_call 8; refine (with_any _ _ _ _ (T0.out.keeps K.out) (by first | exact of_b64_FlagApart _ _ | omega)).mono ?_; rintro e w5 ⟨rfl, k5⟩; replace K := hide (K.out.trans k5); clear k5) | (go_at_call 10; refine (of_any _ _ _ (T0.out.keeps K.out)).mono ?_; rintro e w5 ⟨rfl, k5⟩; replace K := hide (K.out.trans k5); clear k5) | (go_at_call 14; refine (live7_any _ (T0.out.keeps K.out)).mono ?_; rintro e w5 ⟨rfl, k5⟩; replace K := hide (K.out.trans k5); clear k5))
            go_roundw
            case rel => exact ⟨j + 1, by omega, by go_num, rfl, K.out⟩
            case measure => simp [intOf]; omega
          · obtain rfl : j = 9 := by omega
            have m1 := Fl.acc_end bb
            generalize Fl.acc 9 b = A0 at *
            go_wp2_with (first | (go_at_call 8; refine (with_any _ _ _ _ (T0.out.keeps K.out) (by first | exact of_b64_FlagApart _ _ | omega)).mono ?_; rintro e w5 ⟨rfl, k5⟩; replace K := hide (K.out.trans k5); clear k5) | (go_at_call 10; refine (of_any _ _ _ (T0.out.keeps K.out)).mono ?_; rintro e w5 ⟨rfl, k5⟩; replace K := hide (K.out.trans k5); clear k5) | (go_at_call 14; refine (live7_any _ (T0.out.keeps K.out)).mono ?_; rintro e w5 ⟨rfl, k5⟩; replace K := hide (K.out.trans k5); clear k5))
            go_ret
            exact ⟨rfl, K.out⟩
end Go.Proofs.YtcnpnlbmibnkdaaDoor
