/- What octet.Get, and the document's, answer, for every input. -/
import Derived.Test.YthoominldliphaaOctWalk1
namespace Go.Proofs.Ythoominldliphaa
open Go.RowKit

theorem get_any (s : ByteArray) (p k : Int) (w : World) (hs : s.size ≤ maxLen) (hp : p ≤ 9223372036854775807) :
    Calls Try.prog 37 #[.string s, .int .i64 p, .int .i64 k] w fun e w' => e = .returned (.tuple #[.int .i64 (Oct.getN s p k), .bool (Oct.getOk s p k)]) ∧ w' = w := by
  by_cases h1 : Oct.sizedB k = true
  · by_cases h2 : Oct.takeOk s p k = true
    · have hg : Oct.getOk s p k = true := by simp [Oct.getOk, h1, h2]
      have hb : 1 ≤ k ∧ k ≤ 4 := by simpa [Oct.sizedB] using h1
      have hts := Oct.takeS_size s p k h2
      go_enter Try.func37, Try.ntmps37
      go_wp2_with (first | (go_at_call 47; refine (sized_any _ _).mono ?_; rintro e w' ⟨rfl, rfl⟩) | (go_at_call 38; refine (take_any _ _ _ _ hs hp).mono ?_; rintro e w' ⟨rfl, rfl⟩))
      generalize hT : Oct.takeS s p k = T at *
      have HT : Hid (Oct.takeS s p k = T) := hT
      clear hT
      go_loop [10, 25] (fun n i => ∃ j : Nat, (j : Int) ≤ k ∧ i = .int .i64 j ∧ n = .int .i64 (Oct.numL (T.data.toList.take j))) (fun _ i => (k - intOf i).toNat)
      case atStart => exact ⟨0, by omega, rfl, rfl⟩
      case round =>
        obtain ⟨j, hj, rfl, rfl⟩ := hrel
        by_cases hlt : (j : Int) < k
        · have hjs : j < T.size := by omega
          have hnb := Oct.numL_lt3 (T.data.toList.take j) (by have := List.length_take_le j T.data.toList; omega)
          go_wp2
          go_round
          case rel => exact ⟨j + 1, by omega, by go_num, by rw [Oct.or_join _ _ hnb.1 hnb.2, Oct.take_snoc T j hjs, Oct.numL_snoc]⟩
          case measure => simp [intOf]; omega
        · go_wp2
          go_ret2
          exact ⟨ret_int_bool (by simp only [Oct.getN, hg, if_true, HT.out]; rw [List.take_of_length_le (by simp; omega)]) rfl, rfl⟩
    · have hg : Oct.getOk s p k = false := by simp [Oct.getOk, h2]
      go_enter Try.func37, Try.ntmps37
      go_wp2_with (first | (go_at_call 47; refine (sized_any _ _).mono ?_; rintro e w' ⟨rfl, rfl⟩) | (go_at_call 38; refine (take_any _ _ _ _ hs hp).mono ?_; rintro e w' ⟨rfl, rfl⟩))
      go_ret2
      exact ⟨by simp [Oct.getN, hg], rfl⟩
  · have hg : Oct.getOk s p k = false := by simp [Oct.getOk, h1]
    go_enter Try.func37, Try.ntmps37
    go_wp2_with (first | (go_at_call 47; refine (sized_any _ _).mono ?_; rintro e w' ⟨rfl, rfl⟩) | (go_at_call 38; refine (take_any _ _ _ _ hs hp).mono ?_; rintro e w' ⟨rfl, rfl⟩))
    go_ret2
    exact ⟨by simp [Oct.getN, hg], rfl⟩

theorem refget_any (s : ByteArray) (p k : Int) (w : World) (hs : s.size ≤ maxLen) (hp : p ≤ 9223372036854775807) :
    Calls Try.prog 26 #[.string s, .int .i64 p, .int .i64 k] w fun e w' => e = .returned (.tuple #[.int .i64 (Oct.getN s p k), .bool (Oct.getOk s p k)]) ∧ w' = w := by
  by_cases h2 : Oct.takeOk s p k = true
  · by_cases h1 : k < 1
    · have hg : Oct.getOk s p k = false := by simp [Oct.getOk, Oct.sizedB]; omega
      go_enter Try.func26, Try.ntmps26
      go_wp2_with (go_at_call 25; refine (reftake_any _ _ _ _ hs hp).mono ?_; rintro e w' ⟨rfl, rfl⟩)
      go_ret2
      exact ⟨by simp [Oct.getN, hg], rfl⟩
    · by_cases h4 : 4 < k
      · have hg : Oct.getOk s p k = false := by simp [Oct.getOk, Oct.sizedB]; omega
        go_enter Try.func26, Try.ntmps26
        go_wp2_with (go_at_call 25; refine (reftake_any _ _ _ _ hs hp).mono ?_; rintro e w' ⟨rfl, rfl⟩)
        go_ret2
        exact ⟨by simp [Oct.getN, hg], rfl⟩
      · have hg : Oct.getOk s p k = true := by simp [Oct.getOk, Oct.sizedB, h2]; omega
        have hts := Oct.takeS_size s p k h2
        go_enter Try.func26, Try.ntmps26
        go_wp2_with (go_at_call 25; refine (reftake_any _ _ _ _ hs hp).mono ?_; rintro e w' ⟨rfl, rfl⟩)
        generalize hT : Oct.takeS s p k = T at *
        have HT : Hid (Oct.takeS s p k = T) := hT
        clear hT
        go_loop [10, 11] (fun n i => ∃ j : Nat, (j : Int) ≤ k ∧ i = .int .i64 j ∧ n = .int .i64 (Oct.numL (T.data.toList.take j))) (fun _ i => (k - intOf i).toNat)
        case atStart => exact ⟨0, by omega, rfl, rfl⟩
        case round =>
          obtain ⟨j, hj, rfl, rfl⟩ := hrel
          by_cases hlt : (j : Int) < k
          · have hjs : j < T.size := by omega
            have hnb := Oct.numL_lt3 (T.data.toList.take j) (by have := List.length_take_le j T.data.toList; omega)
            have hc : (T[j].toNat : Int) < 256 := by have := UInt8.toNat_lt T[j]; omega
            go_wp2
            go_round
            case rel => exact ⟨j + 1, by omega, by go_num, by rw [Oct.take_snoc T j hjs, Oct.numL_snoc]⟩
            case measure => simp [intOf]; omega
          · go_wp2
            go_ret2
            exact ⟨ret_int_bool (by simp only [Oct.getN, hg, if_true, HT.out]; rw [List.take_of_length_le (by simp; omega)]) rfl, rfl⟩
  · have hg : Oct.getOk s p k = false := by simp [Oct.getOk, h2]
    go_enter Try.func26, Try.ntmps26
    go_wp2_with (go_at_call 25; refine (reftake_any _ _ _ _ hs hp).mono ?_; rintro e w' ⟨rfl, rfl⟩)
    go_ret2
    exact ⟨by simp [Oct.getN, hg], rfl⟩
end Go.Proofs.Ythoominldliphaa
