/- What octet.Put answers, for every input. -/
import Derived.Test.YthoominldliphaaOctWalk1
namespace Go.Proofs.Ythoominldliphaa
open Go.RowKit

theorem put_1 (n : Int) (w : World) (h0 : 0 ≤ n) (h1 : n < 256) :
    Calls Try.prog 33 #[.int .i64 n, .int .i64 1] w fun e w' => e = .returned (.string ⟨(Oct.beL n.toNat 1).toArray⟩) ∧ Keeps w w' := by
  have hmk : ∀ w, (Instr.makeSlice 58 (.int .i64 1) (.int .i64 1)).run Try.prog w = .ok (.slice (some ⟨w.heap.size, 0, none⟩) 1 1) (w.alloc (.cells #[.int .u8 0] 5)) := fun _ => by kernel_rfl
  have hcv := fun w => conv_new (P := Try.prog) 58 9 5 Try.underlying58 Try.underlying5 Try.underlying9 #[.int .u8 (n)] (Oct.beL n.toNat 1) 1 1 (Oct.beL_length _ _) (Oct.beL_1 n h0 h1).symm w
  have hq : (n / 256 != 0) = false := by simp; omega
  go_enter Try.func33, Try.ntmps33
  go_wp2_with (go_at_call 47; refine (sized_any _ _).mono ?_; rintro e w' ⟨rfl, rfl⟩; simp only [show Oct.sizedB 1 = true from rfl])
  go_rounds 2
  go_ret
  exact ⟨rfl, (Keeps.refl _).alloc _⟩

theorem put_1_no (n : Int) (w : World) (h0 : 0 ≤ n) (h1 : ¬ n < 256) :
    Calls Try.prog 33 #[.int .i64 n, .int .i64 1] w fun e w' => e = .returned (.string ⟨#[]⟩) ∧ Keeps w w' := by
  have hq : (n / 256 != 0) = true := by simp; omega
  go_enter Try.func33, Try.ntmps33
  go_wp2_with (go_at_call 47; refine (sized_any _ _).mono ?_; rintro e w' ⟨rfl, rfl⟩; simp only [show Oct.sizedB 1 = true from rfl])
  go_ret
  exact ⟨rfl, Keeps.refl _⟩

theorem put_2 (n : Int) (w : World) (h0 : 0 ≤ n) (h1 : n < 65536) :
    Calls Try.prog 33 #[.int .i64 n, .int .i64 2] w fun e w' => e = .returned (.string ⟨(Oct.beL n.toNat 2).toArray⟩) ∧ Keeps w w' := by
  have hmk : ∀ w, (Instr.makeSlice 58 (.int .i64 2) (.int .i64 2)).run Try.prog w = .ok (.slice (some ⟨w.heap.size, 0, none⟩) 2 2) (w.alloc (.cells #[.int .u8 0, .int .u8 0] 5)) := fun _ => by kernel_rfl
  have hcv := fun w => conv_new (P := Try.prog) 58 9 5 Try.underlying58 Try.underlying5 Try.underlying9 #[.int .u8 (n / 256), .int .u8 (n % 256)] (Oct.beL n.toNat 2) 2 2 (Oct.beL_length _ _) (Oct.beL_2 n h0 h1).symm w
  have hq : (n / 65536 != 0) = false := by simp; omega
  go_enter Try.func33, Try.ntmps33
  go_wp2_with (go_at_call 47; refine (sized_any _ _).mono ?_; rintro e w' ⟨rfl, rfl⟩; simp only [show Oct.sizedB 2 = true from rfl])
  go_rounds 3
  go_ret
  exact ⟨rfl, (Keeps.refl _).alloc _⟩

theorem put_2_no (n : Int) (w : World) (h0 : 0 ≤ n) (h1 : ¬ n < 65536) :
    Calls Try.prog 33 #[.int .i64 n, .int .i64 2] w fun e w' => e = .returned (.string ⟨#[]⟩) ∧ Keeps w w' := by
  have hq : (n / 65536 != 0) = true := by simp; omega
  go_enter Try.func33, Try.ntmps33
  go_wp2_with (go_at_call 47; refine (sized_any _ _).mono ?_; rintro e w' ⟨rfl, rfl⟩; simp only [show Oct.sizedB 2 = true from rfl])
  go_ret
  exact ⟨rfl, Keeps.refl _⟩

theorem put_3 (n : Int) (w : World) (h0 : 0 ≤ n) (h1 : n < 16777216) :
    Calls Try.prog 33 #[.int .i64 n, .int .i64 3] w fun e w' => e = .returned (.string ⟨(Oct.beL n.toNat 3).toArray⟩) ∧ Keeps w w' := by
  have hmk : ∀ w, (Instr.makeSlice 58 (.int .i64 3) (.int .i64 3)).run Try.prog w = .ok (.slice (some ⟨w.heap.size, 0, none⟩) 3 3) (w.alloc (.cells #[.int .u8 0, .int .u8 0, .int .u8 0] 5)) := fun _ => by kernel_rfl
  have hcv := fun w => conv_new (P := Try.prog) 58 9 5 Try.underlying58 Try.underlying5 Try.underlying9 #[.int .u8 (n / 65536), .int .u8 (n / 256 % 256), .int .u8 (n % 256)] (Oct.beL n.toNat 3) 3 3 (Oct.beL_length _ _) (Oct.beL_3 n h0 h1).symm w
  have hq : (n / 16777216 != 0) = false := by simp; omega
  go_enter Try.func33, Try.ntmps33
  go_wp2_with (go_at_call 47; refine (sized_any _ _).mono ?_; rintro e w' ⟨rfl, rfl⟩; simp only [show Oct.sizedB 3 = true from rfl])
  go_rounds 4
  go_ret
  exact ⟨rfl, (Keeps.refl _).alloc _⟩

theorem put_3_no (n : Int) (w : World) (h0 : 0 ≤ n) (h1 : ¬ n < 16777216) :
    Calls Try.prog 33 #[.int .i64 n, .int .i64 3] w fun e w' => e = .returned (.string ⟨#[]⟩) ∧ Keeps w w' := by
  have hq : (n / 16777216 != 0) = true := by simp; omega
  go_enter Try.func33, Try.ntmps33
  go_wp2_with (go_at_call 47; refine (sized_any _ _).mono ?_; rintro e w' ⟨rfl, rfl⟩; simp only [show Oct.sizedB 3 = true from rfl])
  go_ret
  exact ⟨rfl, Keeps.refl _⟩

theorem put_4 (n : Int) (w : World) (h0 : 0 ≤ n) (h1 : n < 4294967296) :
    Calls Try.prog 33 #[.int .i64 n, .int .i64 4] w fun e w' => e = .returned (.string ⟨(Oct.beL n.toNat 4).toArray⟩) ∧ Keeps w w' := by
  have hmk : ∀ w, (Instr.makeSlice 58 (.int .i64 4) (.int .i64 4)).run Try.prog w = .ok (.slice (some ⟨w.heap.size, 0, none⟩) 4 4) (w.alloc (.cells #[.int .u8 0, .int .u8 0, .int .u8 0, .int .u8 0] 5)) := fun _ => by kernel_rfl
  have hcv := fun w => conv_new (P := Try.prog) 58 9 5 Try.underlying58 Try.underlying5 Try.underlying9 #[.int .u8 (n / 16777216), .int .u8 (n / 65536 % 256), .int .u8 (n / 256 % 256), .int .u8 (n % 256)] (Oct.beL n.toNat 4) 4 4 (Oct.beL_length _ _) (Oct.beL_4 n h0 h1).symm w
  have hq : (n / 4294967296 != 0) = false := by simp; omega
  go_enter Try.func33, Try.ntmps33
  go_wp2_with (go_at_call 47; refine (sized_any _ _).mono ?_; rintro e w' ⟨rfl, rfl⟩; simp only [show Oct.sizedB 4 = true from rfl])
  go_rounds 5
  go_ret
  exact ⟨rfl, (Keeps.refl _).alloc _⟩

theorem put_4_no (n : Int) (w : World) (h0 : 0 ≤ n) (h1 : ¬ n < 4294967296) :
    Calls Try.prog 33 #[.int .i64 n, .int .i64 4] w fun e w' => e = .returned (.string ⟨#[]⟩) ∧ Keeps w w' := by
  have hq : (n / 4294967296 != 0) = true := by simp; omega
  go_enter Try.func33, Try.ntmps33
  go_wp2_with (go_at_call 47; refine (sized_any _ _).mono ?_; rintro e w' ⟨rfl, rfl⟩; simp only [show Oct.sizedB 4 = true from rfl])
  go_ret
  exact ⟨rfl, Keeps.refl _⟩

theorem put_any (n k : Int) (w : World) :
    Calls Try.prog 33 #[.int .i64 n, .int .i64 k] w fun e w' => e = .returned (.string (Oct.putS n k)) ∧ Keeps w w' := by
  by_cases h1 : Oct.sizedB k = true
  · by_cases h0 : 0 ≤ n
    · have hb : 1 ≤ k ∧ k ≤ 4 := by simpa [Oct.sizedB] using h1
      have hk : k = 1 ∨ k = 2 ∨ k = 3 ∨ k = 4 := by omega
      rcases hk with rfl | rfl | rfl | rfl
      · by_cases hn : n < 256
        · rw [Oct.putS_yes n 1 (by simp [Oct.putOk, h0, hn])]; exact put_1 n w h0 hn
        · rw [Oct.putS_no n 1 (by simp [Oct.putOk]; omega)]; exact put_1_no n w h0 hn
      · by_cases hn : n < 65536
        · rw [Oct.putS_yes n 2 (by simp [Oct.putOk, h0, hn])]; exact put_2 n w h0 hn
        · rw [Oct.putS_no n 2 (by simp [Oct.putOk]; omega)]; exact put_2_no n w h0 hn
      · by_cases hn : n < 16777216
        · rw [Oct.putS_yes n 3 (by simp [Oct.putOk, h0, hn])]; exact put_3 n w h0 hn
        · rw [Oct.putS_no n 3 (by simp [Oct.putOk]; omega)]; exact put_3_no n w h0 hn
      · by_cases hn : n < 4294967296
        · rw [Oct.putS_yes n 4 (by simp [Oct.putOk, h0, hn])]; exact put_4 n w h0 hn
        · rw [Oct.putS_no n 4 (by simp [Oct.putOk]; omega)]; exact put_4_no n w h0 hn
    · rw [Oct.putS_no n k (by simp [Oct.putOk]; omega)]
      have h0' : n < 0 := by omega
      clear h0
      go_enter Try.func33, Try.ntmps33
      go_wp2_with (go_at_call 47; refine (sized_any _ _).mono ?_; rintro e w' ⟨rfl, rfl⟩)
      go_ret
      exact ⟨rfl, Keeps.refl _⟩
  · rw [Oct.putS_no n k (by simp [Oct.sizedB] at h1; simp [Oct.putOk]; omega)]
    go_enter Try.func33, Try.ntmps33
    go_wp2_with (go_at_call 47; refine (sized_any _ _).mono ?_; rintro e w' ⟨rfl, rfl⟩)
    go_ret
    exact ⟨rfl, Keeps.refl _⟩
end Go.Proofs.Ythoominldliphaa
