/- What the document's Put answers, for every input. -/
import Derived.Test.YthoominldliphaaOctWalk1
import Derived.Test.YthoominldliphaaBytes
namespace Go.Proofs.Ythoominldliphaa
open Go.RowKit

set_option maxHeartbeats 400000 in
theorem refput_yes (n k : Int) (w : World) (h0 : 0 ≤ n) (hn : n ≤ 9223372036854775807) (h1 : 1 ≤ k) (h4 : k ≤ 4) :
    Calls Try.prog 20 #[.int .i64 n, .int .i64 k] w fun e w' => e = .returned (.string (Oct.putS n k)) ∧ Keeps w w' := by
  go_enter Try.func20, Try.ntmps20
  go_wp2
  go_loopw [5, 6] (fun v i wr => ∃ d : Nat, (d : Int) ≤ k ∧ i = .int .i64 ((d : Int) - 1) ∧ Owns wr w.heap.size v (Oct.beL (n.toNat / 256 ^ d) (k.toNat - d)) ∧ Below w.heap.size w wr) (fun _ i _ => (intOf i + 1).toNat)
  case atStart =>
    obtain ⟨m, rfl⟩ := Int.eq_ofNat_of_zero_le (show 0 ≤ k by omega)
    exact ⟨m, by omega, rfl, by simp [Oct.beL]; exact Owns.nil _ _, Below.refl _ _⟩
  case round =>
    obtain ⟨d, hd, rfl, hown, hbel⟩ := hrel
    have hsz := hbel.size
    have hd4 : d = 0 ∨ d = 1 ∨ d = 2 ∨ d = 3 ∨ d = 4 := by omega
    have hlen := Oct.beL_length (n.toNat / 256 ^ d) (k.toNat - d)
    rcases hd4 with rfl | rfl | rfl | rfl | rfl
    · have hcv := Owns.conv hown
      have hk4 : k = 1 ∨ k = 2 ∨ k = 3 ∨ k = 4 := by omega
      have hK : Keeps w wr := hbel
      clear hown hbel
      rcases hk4 with rfl | rfl | rfl | rfl
      · by_cases hp : n < 256
        · have hq : ¬ (0 : Int) < n / 256 := by omega
          go_wp2
          go_ret
          exact ⟨ret_str (by rw [Oct.putS_yes n 1 (by simp [Oct.putOk, h0, hp])]; simp), hK⟩
        · have hq : (0 : Int) < n / 256 := by omega
          go_wp2
          go_ret
          exact ⟨ret_str (by rw [Oct.putS_no n 1 (by simp [Oct.putOk]; omega)]), hK⟩
      · by_cases hp : n < 65536
        · have hq : ¬ (0 : Int) < n / 65536 := by omega
          go_wp2
          go_ret
          exact ⟨ret_str (by rw [Oct.putS_yes n 2 (by simp [Oct.putOk, h0, hp])]; simp), hK⟩
        · have hq : (0 : Int) < n / 65536 := by omega
          go_wp2
          go_ret
          exact ⟨ret_str (by rw [Oct.putS_no n 2 (by simp [Oct.putOk]; omega)]), hK⟩
      · by_cases hp : n < 16777216
        · have hq : ¬ (0 : Int) < n / 16777216 := by omega
          go_wp2
          go_ret
          exact ⟨ret_str (by rw [Oct.putS_yes n 3 (by simp [Oct.putOk, h0, hp])]; simp), hK⟩
        · have hq : (0 : Int) < n / 16777216 := by omega
          go_wp2
          go_ret
          exact ⟨ret_str (by rw [Oct.putS_no n 3 (by simp [Oct.putOk]; omega)]), hK⟩
      · by_cases hp : n < 4294967296
        · have hq : ¬ (0 : Int) < n / 4294967296 := by omega
          go_wp2
          go_ret
          exact ⟨ret_str (by rw [Oct.putS_yes n 4 (by simp [Oct.putOk, h0, hp])]; simp), hK⟩
        · have hq : (0 : Int) < n / 4294967296 := by omega
          go_wp2
          go_ret
          exact ⟨ret_str (by rw [Oct.putS_no n 4 (by simp [Oct.putOk]; omega)]), hK⟩
    · have ha := Oct.and255 n (by omega) (by omega)
      go_wp2_with (at_builtin; refine wpList_app1 _ rfl _ _ rfl w.heap.size _ _ rfl (hown.alloc _) _ _ (UInt8.ofNat (n.toNat / 256 ^ 0 % 256)) rfl ?c1 ?c2 ?c3 ?_)
      case c1 => simp [bv]; omega
      case c2 => omega
      case c3 => simp; omega
      intro v' w1 hown' hb' _
      clear ha
      have hbel' := (hbel.alloc hsz _).trans hb'
      clear hb' hown hbel
      go_wp2
      go_roundw
      case rel => exact ⟨0, by omega, by go_num, by rw [show k.toNat - 0 = (k.toNat - 1) + 1 by omega, Oct.beL_step n.toNat 1 _ (by omega)]; first | exact hown' | (simpa using hown') | (simpa [show k.toNat = 4 from by omega] using hown'), hbel'⟩
      case measure => simp [intOf]
    · have ha := Oct.and255 (n / 256) (by omega) (by omega)
      go_wp2_with (at_builtin; refine wpList_app1 _ rfl _ _ rfl w.heap.size _ _ rfl (hown.alloc _) _ _ (UInt8.ofNat (n.toNat / 256 ^ 1 % 256)) rfl ?c1 ?c2 ?c3 ?_)
      case c1 => simp [bv]; omega
      case c2 => omega
      case c3 => simp; omega
      intro v' w1 hown' hb' _
      clear ha
      have hbel' := (hbel.alloc hsz _).trans hb'
      clear hb' hown hbel
      go_wp2
      go_roundw
      case rel => exact ⟨1, by omega, by go_num, by rw [show k.toNat - 1 = (k.toNat - 2) + 1 by omega, Oct.beL_step n.toNat 2 _ (by omega)]; first | exact hown' | (simpa using hown') | (simpa [show k.toNat = 4 from by omega] using hown'), hbel'⟩
      case measure => simp [intOf]
    · have ha := Oct.and255 (n / 65536) (by omega) (by omega)
      go_wp2_with (at_builtin; refine wpList_app1 _ rfl _ _ rfl w.heap.size _ _ rfl (hown.alloc _) _ _ (UInt8.ofNat (n.toNat / 256 ^ 2 % 256)) rfl ?c1 ?c2 ?c3 ?_)
      case c1 => simp [bv]; omega
      case c2 => omega
      case c3 => simp; omega
      intro v' w1 hown' hb' _
      clear ha
      have hbel' := (hbel.alloc hsz _).trans hb'
      clear hb' hown hbel
      go_wp2
      go_roundw
      case rel => exact ⟨2, by omega, by go_num, by rw [show k.toNat - 2 = (k.toNat - 3) + 1 by omega, Oct.beL_step n.toNat 3 _ (by omega)]; first | exact hown' | (simpa using hown') | (simpa [show k.toNat = 4 from by omega] using hown'), hbel'⟩
      case measure => simp [intOf]
    · have ha := Oct.and255 (n / 16777216) (by omega) (by omega)
      go_wp2_with (at_builtin; refine wpList_app1 _ rfl _ _ rfl w.heap.size _ _ rfl (hown.alloc _) _ _ (UInt8.ofNat (n.toNat / 256 ^ 3 % 256)) rfl ?c1 ?c2 ?c3 ?_)
      case c1 => simp [bv]; omega
      case c2 => omega
      case c3 => simp; omega
      intro v' w1 hown' hb' _
      clear ha
      have hbel' := (hbel.alloc hsz _).trans hb'
      clear hb' hown hbel
      go_wp2
      go_roundw
      case rel => exact ⟨3, by omega, by go_num, by rw [show k.toNat - 3 = (k.toNat - 4) + 1 by omega, Oct.beL_step n.toNat 4 _ (by omega)]; first | exact hown' | (simpa using hown') | (simpa [show k.toNat = 4 from by omega] using hown'), hbel'⟩
      case measure => simp [intOf]

theorem refput_any (n k : Int) (w : World) (hn : n ≤ 9223372036854775807) :
    Calls Try.prog 20 #[.int .i64 n, .int .i64 k] w fun e w' => e = .returned (.string (Oct.putS n k)) ∧ Keeps w w' := by
  by_cases h1 : k < 1
  · rw [Oct.putS_no n k (by simp [Oct.putOk]; omega)]
    go_enter Try.func20, Try.ntmps20
    go_wp2
    go_ret
    exact ⟨rfl, Keeps.refl _⟩
  · by_cases h4 : 4 < k
    · rw [Oct.putS_no n k (by simp [Oct.putOk]; omega)]
      go_enter Try.func20, Try.ntmps20
      go_wp2
      go_ret
      exact ⟨rfl, Keeps.refl _⟩
    · by_cases h0 : n < 0
      · rw [Oct.putS_no n k (by simp [Oct.putOk]; omega)]
        go_enter Try.func20, Try.ntmps20
        go_wp2
        go_ret
        exact ⟨rfl, Keeps.refl _⟩
      · exact refput_yes n k w (by omega) hn (by omega) (by omega)
end Go.Proofs.Ythoominldliphaa
