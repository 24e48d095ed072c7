/- What mix.great, small, eachLetter answer, for every input; eachLetter for every function that is handed to it. -/
import Derived.Test.YtncgflnjphhhlaaNameWalk3
import Derived.Test.YtncgflnjphhhlaaMixMath
namespace Go.Proofs.Ytncgflnjphhhlaa
open Go.RowKit

theorem great_any (c : UInt8) (w : World) : Calls Try.prog 26 #[.int .u8 (c.toNat : Int)] w fun e w' => e = .returned (.bool (Mx.isG c)) ∧ w' = w := by
  have hc := UInt8.toNat_lt c
  by_cases h1 : (65 : Int) ≤ c.toNat
  · by_cases h2 : (c.toNat : Int) ≤ 90
    · go_enter Try.func26, Try.ntmps26
      go_wp2
      go_ret
      exact ⟨ret_bool (by simp [Mx.isG]; omega), rfl⟩
    · go_enter Try.func26, Try.ntmps26
      go_wp2
      go_ret
      exact ⟨ret_bool (by simp [Mx.isG]; omega), rfl⟩
  · go_enter Try.func26, Try.ntmps26
    go_wp2
    go_ret
    exact ⟨ret_bool (by simp [Mx.isG]; omega), rfl⟩
theorem smallB_any (c : UInt8) (w : World) : Calls Try.prog 29 #[.int .u8 (c.toNat : Int)] w fun e w' => e = .returned (.bool (Mx.isS c)) ∧ w' = w := by
  have hc := UInt8.toNat_lt c
  by_cases h1 : (97 : Int) ≤ c.toNat
  · by_cases h2 : (c.toNat : Int) ≤ 122
    · go_enter Try.func29, Try.ntmps29
      go_wp2
      go_ret
      exact ⟨ret_bool (by simp [Mx.isS]; omega), rfl⟩
    · go_enter Try.func29, Try.ntmps29
      go_wp2
      go_ret
      exact ⟨ret_bool (by simp [Mx.isS]; omega), rfl⟩
  · go_enter Try.func29, Try.ntmps29
    go_wp2
    go_ret
    exact ⟨ret_bool (by simp [Mx.isS]; omega), rfl⟩

/-- How many letters stand ahead of a place. -/
def upto (n : ByteArray) (p : Nat) : Nat := Mx.cnt ((bl n).take p)
theorem upto_succ (n : ByteArray) (p : Nat) (h : p < n.size) : upto n (p + 1) = upto n p + (if Mx.isL n[p] = true then 1 else 0) := by
  have hp : p < (bl n).length := by rw [bl_length]; exact h
  unfold upto
  rw [List.take_succ_eq_append_getElem hp]
  simp only [Mx.cnt, List.countP_append]
  rw [show (bl n)[p] = n[p] from rfl]
  rw [List.countP_cons, List.countP_nil, Nat.zero_add]
  rfl
theorem upto_le (n : ByteArray) (p : Nat) : upto n p ≤ n.size := by
  have h1 := Mx.cnt_le ((bl n).take p)
  have h2 : ((bl n).take p).length ≤ n.size := by rw [List.length_take, bl_length]; omega
  unfold upto; omega

theorem each_no (n : ByteArray) (g : Value) (w : World) (hn : n.size ≤ maxLen) (h : Nm.okL (bl n) = false) :
    Calls Try.prog 19 #[.string n, g] w fun e w' => e = .returned (.tuple #[]) ∧ w' = w := by
  go_enter Try.func19, Try.ntmps19
  go_wp2_with (go_at_call 27; refine (check_any _ _ hn).mono ?_; rintro e w' ⟨rfl, rfl⟩)
  refine bodyPost_ret (results_none rfl _ _ _) rfl ?_
  exact ⟨rfl, rfl⟩

set_option maxHeartbeats 800000 in
theorem each_any (n : ByteArray) (g : Nat) (caps : Array Value) (I : Nat → World → Prop) (w : World) (hn : n.size ≤ maxLen) (h : Nm.okL (bl n) = true)
    (hent : ∀ (args : Array Value) (w : World), (callFunc g args).run Try.prog w = .ok (.enter g args) w)
    (hyes : ∀ (p : Nat) (w1 : World) (hp : p < n.size), Mx.isL n[p] = true → I p w1 → Calls Try.prog g (#[.int .i64 (upto n p : Nat), .int .i64 (p : Nat)] ++ caps) w1 fun e w2 => e = .returned (.tuple #[]) ∧ I (p + 1) w2)
    (hno : ∀ (p : Nat) (w1 : World) (hp : p < n.size), ¬ Mx.isL n[p] = true → I p w1 → I (p + 1) w1) (h0 : I 0 w) :
    Calls Try.prog 19 #[.string n, .func (.func g) #[] caps] w fun e w' => e = .returned (.tuple #[]) ∧ I n.size w' := by
  have h255 : n.size ≤ 255 := by have := ((Nm.okL_spec _).1 h).1; rw [bl_length] at this; exact this
  have HY := hide hyes
  have HN := hide hno
  clear hyes hno
  go_enter Try.func19, Try.ntmps19
  go_wp2_with (go_at_call 27; refine (check_any _ _ hn).mono ?_; rintro e w' ⟨rfl, rfl⟩)
  go_loopw [4, 11] (fun k i wr => ∃ p : Nat, p ≤ n.size ∧ i = .int .i64 p ∧ k = .int .i64 (upto n p : Nat) ∧ I p wr) (fun _ i _ => n.size - (intOf i).toNat)
  case atStart => exact ⟨0, Nat.zero_le _, rfl, rfl, h0⟩
  case round =>
    obtain ⟨p, hp, rfl, rfl, hI⟩ := hrel
    have hul := upto_le n p
    by_cases hlt : p < n.size
    · have hus := upto_succ n p hlt
      by_cases hL : Mx.isL n[p] = true
      · rw [if_pos hL] at hus
        have HU := hide hus
        have hcall := HY.out p wr hlt hL hI
        clear hus hI
        by_cases hG : Mx.isG n[p] = true
        · clear hL
          go_wp2_with (go_at_call 26; refine (great_any _ _).mono ?_; rintro e w' ⟨rfl, rfl⟩)
          refine hcall.mono ?_
          rintro e w2 ⟨rfl, hI2⟩
          clear hcall
          go_wp2
          go_roundw
          case rel => exact ⟨p + 1, by omega, by go_num, by rw [HU.out]; go_num, hI2⟩
          case measure => simp [intOf]; omega
        · have hS : Mx.isS n[p] = true := by
            simp only [Mx.isL, Bool.or_eq_true] at hL
            exact hL.resolve_left hG
          simp only [Bool.not_eq_true] at hG
          clear hL
          go_wp2_with (first | (go_at_call 26; refine (great_any _ _).mono ?_; rintro e w' ⟨rfl, rfl⟩) | (go_at_call 29; refine (smallB_any _ _).mono ?_; rintro e w' ⟨rfl, rfl⟩))
          refine hcall.mono ?_
          rintro e w2 ⟨rfl, hI2⟩
          clear hcall
          go_wp2
          go_roundw
          case rel => exact ⟨p + 1, by omega, by go_num, by rw [HU.out]; go_num, hI2⟩
          case measure => simp [intOf]; omega
      · rw [if_neg hL] at hus
        have HU := hide hus
        have hI2 := HN.out p wr hlt hL hI
        simp only [Mx.isL, Bool.or_eq_true, not_or, Bool.not_eq_true] at hL
        obtain ⟨hG, hS⟩ := hL
        clear hus hI
        go_wp2_with (first | (go_at_call 26; refine (great_any _ _).mono ?_; rintro e w' ⟨rfl, rfl⟩) | (go_at_call 29; refine (smallB_any _ _).mono ?_; rintro e w' ⟨rfl, rfl⟩))
        go_roundw
        case rel => exact ⟨p + 1, by omega, by go_num, by rw [HU.out]; rfl, hI2⟩
        case measure => simp [intOf]; omega
    · obtain rfl : p = n.size := by omega
      go_wp2
      go_end0
      exact ⟨rfl, hI⟩
end Go.Proofs.Ytncgflnjphhhlaa
