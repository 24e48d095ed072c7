/- RankOrder answers true, for every input: the walk. The condition: the table of ranks reads as the program's text lays it. -/
import Derived.Test.YtekbcpnclckakaaDoorRankLive
namespace Go.Proofs.YtekbcpnclckakaaDoor
open Go.RowKit

theorem Rk.aa (s : Int) : Rk.rank s false ≤ Rk.rank s true := by
  unfold Rk.rank
  by_cases h0 : s = 0
  · simp [h0]
  by_cases h1 : s = 1
  · simp [h1]
  by_cases h2 : s = 2
  · simp [h2]
  simp [h0, h1, h2]
theorem Rk.over_in {b : Int} (h : 1 ≤ b ∧ b ≤ 5) (c : Int) : Rk.over c true b = decide (c ≤ b) := by
  simp [Rk.over, Rk.isR, h]

set_option maxHeartbeats 3200000 in
theorem RankOrder_walk (s a b : Int) (w : World) (T0 : TabR w) (_ : -9223372036854775808 ≤ s ∧ s ≤ 9223372036854775807) (_ : -9223372036854775808 ≤ a ∧ a ≤ 9223372036854775807) (_ : -9223372036854775808 ≤ b ∧ b ≤ 9223372036854775807) :
    Calls Tryd.prog 4 #[.int .i64 s, .int .i64 a, .int .i64 b] w fun e w' => e = .returned (.bool true) ∧ Keeps w w' := by
  have T := hide T0
  clear T0
  have K := hide (Keeps.refl w)
  have ha := Rk.aa s
  generalize hy : Rk.rank s true = Y at *
  generalize hn : Rk.rank s false = X at *
  by_cases h1 : a < 1
  · go_enter Tryd.func4, Tryd.ntmps4
    go_wp2_with fail
    refine (rank_any _ _ _ (T.out.keeps K.out)).mono ?_
    rintro e wz ⟨rfl, kz⟩
    replace K := hide (K.out.trans kz)
    clear kz
    rw [hy]
    go_wp2_with fail
    refine (rank_any _ _ _ (T.out.keeps K.out)).mono ?_
    rintro e wz ⟨rfl, kz⟩
    replace K := hide (K.out.trans kz)
    clear kz
    rw [hn]
    go_wp2_with fail
    go_loopw [8] (fun i wr => ∃ j : Nat, j ≤ 6 ∧ 1 ≤ j ∧ i = .int .i64 j ∧ Keeps w wr) (fun i _ => 6 - (intOf i).toNat)
    case atStart => exact ⟨1, by omega, by omega, rfl, K.out⟩
    case round =>
      clear K
      obtain ⟨j, hj, hj1, rfl, K0⟩ := hrel
      have K := hide K0
      clear K0
      by_cases hlt : j ≤ 5
      · go_wp2_with fail
        refine (live11_any _ (T.out.keeps K.out)).mono ?_
        rintro e wz ⟨rfl, kz⟩
        replace K := hide (K.out.trans kz)
        clear kz
        go_wp2
        go_ret
        exact ⟨rfl, K.out⟩
      · go_wp2_with fail
        refine (live11_any _ (T.out.keeps K.out)).mono ?_
        rintro e wz ⟨rfl, kz⟩
        replace K := hide (K.out.trans kz)
        clear kz
        go_wp2
        go_ret
        exact ⟨rfl, K.out⟩
  by_cases h2 : 5 < a
  · go_enter Tryd.func4, Tryd.ntmps4
    go_wp2_with fail
    refine (rank_any _ _ _ (T.out.keeps K.out)).mono ?_
    rintro e wz ⟨rfl, kz⟩
    replace K := hide (K.out.trans kz)
    clear kz
    rw [hy]
    go_wp2_with fail
    refine (rank_any _ _ _ (T.out.keeps K.out)).mono ?_
    rintro e wz ⟨rfl, kz⟩
    replace K := hide (K.out.trans kz)
    clear kz
    rw [hn]
    go_wp2_with fail
    go_loopw [8] (fun i wr => ∃ j : Nat, j ≤ 6 ∧ 1 ≤ j ∧ i = .int .i64 j ∧ Keeps w wr) (fun i _ => 6 - (intOf i).toNat)
    case atStart => exact ⟨1, by omega, by omega, rfl, K.out⟩
    case round =>
      clear K
      obtain ⟨j, hj, hj1, rfl, K0⟩ := hrel
      have K := hide K0
      clear K0
      by_cases hlt : j ≤ 5
      · go_wp2_with fail
        refine (live11_any _ (T.out.keeps K.out)).mono ?_
        rintro e wz ⟨rfl, kz⟩
        replace K := hide (K.out.trans kz)
        clear kz
        go_wp2
        go_ret
        exact ⟨rfl, K.out⟩
      · go_wp2_with fail
        refine (live11_any _ (T.out.keeps K.out)).mono ?_
        rintro e wz ⟨rfl, kz⟩
        replace K := hide (K.out.trans kz)
        clear kz
        go_wp2
        go_ret
        exact ⟨rfl, K.out⟩
  by_cases h3 : b < 1
  · go_enter Tryd.func4, Tryd.ntmps4
    go_wp2_with fail
    refine (rank_any _ _ _ (T.out.keeps K.out)).mono ?_
    rintro e wz ⟨rfl, kz⟩
    replace K := hide (K.out.trans kz)
    clear kz
    rw [hy]
    go_wp2_with fail
    refine (rank_any _ _ _ (T.out.keeps K.out)).mono ?_
    rintro e wz ⟨rfl, kz⟩
    replace K := hide (K.out.trans kz)
    clear kz
    rw [hn]
    go_wp2_with fail
    go_loopw [8] (fun i wr => ∃ j : Nat, j ≤ 6 ∧ 1 ≤ j ∧ i = .int .i64 j ∧ Keeps w wr) (fun i _ => 6 - (intOf i).toNat)
    case atStart => exact ⟨1, by omega, by omega, rfl, K.out⟩
    case round =>
      clear K
      obtain ⟨j, hj, hj1, rfl, K0⟩ := hrel
      have K := hide K0
      clear K0
      by_cases hlt : j ≤ 5
      · go_wp2_with fail
        refine (live11_any _ (T.out.keeps K.out)).mono ?_
        rintro e wz ⟨rfl, kz⟩
        replace K := hide (K.out.trans kz)
        clear kz
        go_wp2
        go_ret
        exact ⟨rfl, K.out⟩
      · go_wp2_with fail
        refine (live11_any _ (T.out.keeps K.out)).mono ?_
        rintro e wz ⟨rfl, kz⟩
        replace K := hide (K.out.trans kz)
        clear kz
        go_wp2
        go_ret
        exact ⟨rfl, K.out⟩
  by_cases h4 : 5 < b
  · go_enter Tryd.func4, Tryd.ntmps4
    go_wp2_with fail
    refine (rank_any _ _ _ (T.out.keeps K.out)).mono ?_
    rintro e wz ⟨rfl, kz⟩
    replace K := hide (K.out.trans kz)
    clear kz
    rw [hy]
    go_wp2_with fail
    refine (rank_any _ _ _ (T.out.keeps K.out)).mono ?_
    rintro e wz ⟨rfl, kz⟩
    replace K := hide (K.out.trans kz)
    clear kz
    rw [hn]
    go_wp2_with fail
    go_loopw [8] (fun i wr => ∃ j : Nat, j ≤ 6 ∧ 1 ≤ j ∧ i = .int .i64 j ∧ Keeps w wr) (fun i _ => 6 - (intOf i).toNat)
    case atStart => exact ⟨1, by omega, by omega, rfl, K.out⟩
    case round =>
      clear K
      obtain ⟨j, hj, hj1, rfl, K0⟩ := hrel
      have K := hide K0
      clear K0
      by_cases hlt : j ≤ 5
      · go_wp2_with fail
        refine (live11_any _ (T.out.keeps K.out)).mono ?_
        rintro e wz ⟨rfl, kz⟩
        replace K := hide (K.out.trans kz)
        clear kz
        go_wp2
        go_ret
        exact ⟨rfl, K.out⟩
      · go_wp2_with fail
        refine (live11_any _ (T.out.keeps K.out)).mono ?_
        rintro e wz ⟨rfl, kz⟩
        replace K := hide (K.out.trans kz)
        clear kz
        go_wp2
        go_ret
        exact ⟨rfl, K.out⟩
  have oa := fun c => Rk.over_in (b := a) (by omega) c
  have ob := fun c => Rk.over_in (b := b) (by omega) c
  have od : Rk.over a false b = true := by simp [Rk.over, Rk.isR]; omega
  by_cases hab : a ≤ b
  · by_cases hba : b ≤ a
    · go_enter Tryd.func4, Tryd.ntmps4
      go_wp2_with fail
      refine (rank_any _ _ _ (T.out.keeps K.out)).mono ?_
      rintro e wz ⟨rfl, kz⟩
      replace K := hide (K.out.trans kz)
      clear kz
      rw [hy]
      go_wp2_with fail
      refine (rank_any _ _ _ (T.out.keeps K.out)).mono ?_
      rintro e wz ⟨rfl, kz⟩
      replace K := hide (K.out.trans kz)
      clear kz
      rw [hn]
      have f1 := ob a
      rw [decide_eq_true hab] at f1
      go_wp2_with fail
      refine (over_any _ _ _ _).mono ?_
      rintro e w1 ⟨rfl, rfl⟩
      rw [f1]
      go_wp2_with fail
      go_loopw [8] (fun i wr => ∃ j : Nat, j ≤ 6 ∧ 1 ≤ j ∧ i = .int .i64 j ∧ Keeps w wr) (fun i _ => 6 - (intOf i).toNat)
      case atStart => exact ⟨1, by omega, by omega, rfl, K.out⟩
      case round =>
        clear K
        obtain ⟨j, hj, hj1, rfl, K0⟩ := hrel
        have K := hide K0
        clear K0
        by_cases hlt : j ≤ 5
        · by_cases hcb : (j : Int) ≤ b
          · have e1 := ob (j : Int)
            rw [decide_eq_true hcb] at e1
            go_wp2_with fail
            refine (over_any _ _ _ _).mono ?_
            rintro e w1 ⟨rfl, rfl⟩
            rw [e1]
            have e2 := oa b
            rw [decide_eq_true hba] at e2
            go_wp2_with fail
            refine (over_any _ _ _ _).mono ?_
            rintro e w1 ⟨rfl, rfl⟩
            rw [e2]
            have e3 := oa (j : Int)
            rw [decide_eq_true (by omega)] at e3
            go_wp2_with fail
            refine (over_any _ _ _ _).mono ?_
            rintro e w1 ⟨rfl, rfl⟩
            rw [e3]
            go_wp2_with fail
            go_roundw
            case rel => exact ⟨j + 1, by omega, by omega, by go_num, K.out⟩
            case measure => simp [intOf]; omega
          · have e1 := ob (j : Int)
            rw [decide_eq_false (show ¬ (j : Int) ≤ b by omega)] at e1
            go_wp2_with fail
            refine (over_any _ _ _ _).mono ?_
            rintro e w1 ⟨rfl, rfl⟩
            rw [e1]
            go_wp2_with fail
            go_roundw
            case rel => exact ⟨j + 1, by omega, by omega, by go_num, K.out⟩
            case measure => simp [intOf]; omega
        · go_wp2_with fail
          refine (over_any _ _ _ _).mono ?_
          rintro e w1 ⟨rfl, rfl⟩
          rw [od]
          go_wp2_with fail
          refine (live11_any _ (T.out.keeps K.out)).mono ?_
          rintro e wz ⟨rfl, kz⟩
          replace K := hide (K.out.trans kz)
          clear kz
          go_wp2
          go_ret
          exact ⟨rfl, K.out⟩
    · go_enter Tryd.func4, Tryd.ntmps4
      go_wp2_with fail
      refine (rank_any _ _ _ (T.out.keeps K.out)).mono ?_
      rintro e wz ⟨rfl, kz⟩
      replace K := hide (K.out.trans kz)
      clear kz
      rw [hy]
      go_wp2_with fail
      refine (rank_any _ _ _ (T.out.keeps K.out)).mono ?_
      rintro e wz ⟨rfl, kz⟩
      replace K := hide (K.out.trans kz)
      clear kz
      rw [hn]
      have f1 := ob a
      rw [decide_eq_true hab] at f1
      go_wp2_with fail
      refine (over_any _ _ _ _).mono ?_
      rintro e w1 ⟨rfl, rfl⟩
      rw [f1]
      go_wp2_with fail
      go_loopw [8] (fun i wr => ∃ j : Nat, j ≤ 6 ∧ 1 ≤ j ∧ i = .int .i64 j ∧ Keeps w wr) (fun i _ => 6 - (intOf i).toNat)
      case atStart => exact ⟨1, by omega, by omega, rfl, K.out⟩
      case round =>
        clear K
        obtain ⟨j, hj, hj1, rfl, K0⟩ := hrel
        have K := hide K0
        clear K0
        by_cases hlt : j ≤ 5
        · by_cases hcb : (j : Int) ≤ b
          · have e1 := ob (j : Int)
            rw [decide_eq_true hcb] at e1
            go_wp2_with fail
            refine (over_any _ _ _ _).mono ?_
            rintro e w1 ⟨rfl, rfl⟩
            rw [e1]
            have e2 := oa b
            rw [decide_eq_false (show ¬ b ≤ a by omega)] at e2
            go_wp2_with fail
            refine (over_any _ _ _ _).mono ?_
            rintro e w1 ⟨rfl, rfl⟩
            rw [e2]
            go_wp2_with fail
            go_roundw
            case rel => exact ⟨j + 1, by omega, by omega, by go_num, K.out⟩
            case measure => simp [intOf]; omega
          · have e1 := ob (j : Int)
            rw [decide_eq_false (show ¬ (j : Int) ≤ b by omega)] at e1
            go_wp2_with fail
            refine (over_any _ _ _ _).mono ?_
            rintro e w1 ⟨rfl, rfl⟩
            rw [e1]
            go_wp2_with fail
            go_roundw
            case rel => exact ⟨j + 1, by omega, by omega, by go_num, K.out⟩
            case measure => simp [intOf]; omega
        · go_wp2_with fail
          refine (over_any _ _ _ _).mono ?_
          rintro e w1 ⟨rfl, rfl⟩
          rw [od]
          go_wp2_with fail
          refine (live11_any _ (T.out.keeps K.out)).mono ?_
          rintro e wz ⟨rfl, kz⟩
          replace K := hide (K.out.trans kz)
          clear kz
          go_wp2
          go_ret
          exact ⟨rfl, K.out⟩
  · have hba : b ≤ a := by omega
    go_enter Tryd.func4, Tryd.ntmps4
    go_wp2_with fail
    refine (rank_any _ _ _ (T.out.keeps K.out)).mono ?_
    rintro e wz ⟨rfl, kz⟩
    replace K := hide (K.out.trans kz)
    clear kz
    rw [hy]
    go_wp2_with fail
    refine (rank_any _ _ _ (T.out.keeps K.out)).mono ?_
    rintro e wz ⟨rfl, kz⟩
    replace K := hide (K.out.trans kz)
    clear kz
    rw [hn]
    have f1 := ob a
    rw [decide_eq_false (show ¬ a ≤ b by omega)] at f1
    go_wp2_with fail
    refine (over_any _ _ _ _).mono ?_
    rintro e w1 ⟨rfl, rfl⟩
    rw [f1]
    have f2 := oa b
    rw [decide_eq_true hba] at f2
    go_wp2_with fail
    refine (over_any _ _ _ _).mono ?_
    rintro e w1 ⟨rfl, rfl⟩
    rw [f2]
    go_wp2_with fail
    go_loopw [8] (fun i wr => ∃ j : Nat, j ≤ 6 ∧ 1 ≤ j ∧ i = .int .i64 j ∧ Keeps w wr) (fun i _ => 6 - (intOf i).toNat)
    case atStart => exact ⟨1, by omega, by omega, rfl, K.out⟩
    case round =>
      clear K
      obtain ⟨j, hj, hj1, rfl, K0⟩ := hrel
      have K := hide K0
      clear K0
      by_cases hlt : j ≤ 5
      · by_cases hcb : (j : Int) ≤ b
        · have e1 := ob (j : Int)
          rw [decide_eq_true hcb] at e1
          go_wp2_with fail
          refine (over_any _ _ _ _).mono ?_
          rintro e w1 ⟨rfl, rfl⟩
          rw [e1]
          have e2 := oa b
          rw [decide_eq_true hba] at e2
          go_wp2_with fail
          refine (over_any _ _ _ _).mono ?_
          rintro e w1 ⟨rfl, rfl⟩
          rw [e2]
          have e3 := oa (j : Int)
          rw [decide_eq_true (by omega)] at e3
          go_wp2_with fail
          refine (over_any _ _ _ _).mono ?_
          rintro e w1 ⟨rfl, rfl⟩
          rw [e3]
          go_wp2_with fail
          go_roundw
          case rel => exact ⟨j + 1, by omega, by omega, by go_num, K.out⟩
          case measure => simp [intOf]; omega
        · have e1 := ob (j : Int)
          rw [decide_eq_false (show ¬ (j : Int) ≤ b by omega)] at e1
          go_wp2_with fail
          refine (over_any _ _ _ _).mono ?_
          rintro e w1 ⟨rfl, rfl⟩
          rw [e1]
          go_wp2_with fail
          go_roundw
          case rel => exact ⟨j + 1, by omega, by omega, by go_num, K.out⟩
          case measure => simp [intOf]; omega
      · go_wp2_with fail
        refine (over_any _ _ _ _).mono ?_
        rintro e w1 ⟨rfl, rfl⟩
        rw [od]
        go_wp2_with fail
        refine (live11_any _ (T.out.keeps K.out)).mono ?_
        rintro e wz ⟨rfl, kz⟩
        replace K := hide (K.out.trans kz)
        clear kz
        go_wp2
        go_ret
        exact ⟨rfl, K.out⟩
end Go.Proofs.YtekbcpnclckakaaDoor
