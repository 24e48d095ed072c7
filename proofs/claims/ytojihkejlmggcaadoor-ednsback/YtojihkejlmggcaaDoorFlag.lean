/- Fields of a header's bits, as plain numbers; what package flag, and the document's answer for it, tell. The condition: the table of places reads as the program's text lays it. -/
import Derived.Test.YtojihkejlmggcaaDoorBase
import Derived.Laws.BitsAllLaws
import Derived.RegionTactic
import Derived.BigRegion
namespace Go.Proofs.YtojihkejlmggcaaDoor.Fl

/-- A field's lowest bit, as a power of two; and how many numbers it can tell. -/
def pw (f : Int) : Int := if f = 0 then 32768 else if f = 1 then 2048 else if f = 2 then 1024 else if f = 3 then 512 else if f = 4 then 256 else if f = 5 then 128 else if f = 6 then 32 else if f = 7 then 16 else 1
def sz (f : Int) : Int := if f = 1 then 16 else if f = 8 then 16 else 2
def isF (f : Int) : Bool := decide (0 ≤ f ∧ f ≤ 8)
def isB (b : Int) : Bool := decide (0 ≤ b ∧ b ≤ 65535)
def get (f b : Int) : Int := b / pw f % sz f
def of (f b : Int) : Int := if isF f && isB b then get f b else 0
def may (f b v : Int) : Bool := isF f && isB b && decide (0 ≤ v ∧ v < sz f)
def lay (f b v : Int) : Int := b + (v - get f b) * pw f
def with_ (f b v : Int) : Int := if may f b v then lay f b v else 0
def code (c : Int) : Int := max c 0 % 16
def answer (a c : Int) : Int := 32896 + code c + of 1 a * 2048 + of 4 a * 256 + of 7 a * 16

theorem field {f : Int} (h : isF f = true) : f = 0 ∨ f = 1 ∨ f = 2 ∨ f = 3 ∨ f = 4 ∨ f = 5 ∨ f = 6 ∨ f = 7 ∨ f = 8 := by
  simp only [isF, decide_eq_true_eq] at h
  omega

theorem ofInt64 (a : Nat) (ha : a < 65536) : (BitVec.ofInt 64 (a : Int)).toNat = a := by
  simp
  omega
theorem wrap_small (n : Nat) (h : n < 9223372036854775808) : IntKind.i64.wrap (n : Int) = n := by rw [IntKind.wrap_i64]; omega
theorem and_nat (a b : Nat) (ha : a < 65536) (hb : b < 65536) : bits .and .i64 (a : Int) (b : Int) = ((a &&& b : Nat) : Int) := by
  show IntKind.i64.wrap ((BitVec.ofInt 64 (a : Int) &&& BitVec.ofInt 64 (b : Int)).toNat : Int) = _
  rw [BitVec.toNat_and, ofInt64 a ha, ofInt64 b hb, wrap_small]
  have : a &&& b ≤ a := Nat.and_le_left
  omega
theorem or_nat (a b : Nat) (ha : a < 65536) (hb : b < 65536) : bits .or .i64 (a : Int) (b : Int) = ((a ||| b : Nat) : Int) := by
  show IntKind.i64.wrap ((BitVec.ofInt 64 (a : Int) ||| BitVec.ofInt 64 (b : Int)).toNat : Int) = _
  rw [BitVec.toNat_or, ofInt64 a ha, ofInt64 b hb, wrap_small]
  have : a ||| b < 2 ^ 16 := Nat.or_lt_two_pow (by omega) (by omega)
  omega
theorem andNot_nat (a b : Nat) (ha : a < 65536) (hb : b < 65536) : bits .andNot .i64 (a : Int) (b : Int) = ((a &&& (2 ^ 64 - (b + 1)) : Nat) : Int) := by
  show IntKind.i64.wrap ((BitVec.ofInt 64 (a : Int) &&& ~~~BitVec.ofInt 64 (b : Int)).toNat : Int) = _
  rw [BitVec.toNat_and, BitVec.toNat_not, ofInt64 a ha, ofInt64 b hb, show 2 ^ 64 - 1 - b = 2 ^ 64 - (b + 1) by omega, wrap_small]
  have : a &&& (2 ^ 64 - (b + 1)) ≤ a := Nat.and_le_left
  omega

theorem lay_nat (k l x v : Nat) (hx : x < 2 ^ 64) (hv : v < 2 ^ k) (hm : (2 ^ k - 1) * 2 ^ l < 2 ^ 64) :
    (x &&& (2 ^ 64 - ((2 ^ k - 1) * 2 ^ l + 1))) ||| (v * 2 ^ l) = 2 ^ l * (2 ^ k * (x / 2 ^ l / 2 ^ k) + v) + x % 2 ^ l := by
  rw [Nat.two_pow_add_eq_or_of_lt (Nat.mod_lt _ (Nat.two_pow_pos l)), Nat.two_pow_add_eq_or_of_lt hv]
  apply Nat.eq_of_testBit_eq
  intro j
  simp only [Nat.testBit_or, Nat.testBit_and, Nat.testBit_two_pow_sub_succ hm, Nat.testBit_mul_two_pow, Nat.testBit_two_pow_mul, Nat.testBit_two_pow_sub_one, Nat.testBit_div_two_pow, Nat.testBit_mod_two_pow]
  by_cases h1 : j < l
  · have h2 : ¬ l ≤ j := by omega
    have h3 : j < 64 ∨ x.testBit j = false := by
      rcases Nat.lt_or_ge j 64 with h | h
      · exact .inl h
      · exact .inr (Nat.testBit_lt_two_pow (Nat.lt_of_lt_of_le hx (Nat.pow_le_pow_right (by omega) h)))
    rcases h3 with h3 | h3 <;> simp [h1, h2, h3]
  · have h2 : l ≤ j := by omega
    by_cases h4 : j - l < k
    · have h5 : ¬ k ≤ j - l := by omega
      simp [h1, h2, h4, h5]
    · have h5 : k ≤ j - l := by omega
      have h6 : v.testBit (j - l) = false := Nat.testBit_lt_two_pow (Nat.lt_of_lt_of_le hv (Nat.pow_le_pow_right (by omega) h5))
      have h3 : j < 64 ∨ x.testBit j = false := by
        rcases Nat.lt_or_ge j 64 with h | h
        · exact .inl h
        · exact .inr (Nat.testBit_lt_two_pow (Nat.lt_of_lt_of_le hx (Nat.pow_le_pow_right (by omega) h)))
      rcases h3 with h3 | h3 <;> simp [h1, h2, h4, h5, h6, h3]

/-- What With reckons: the field's bits taken out, v laid there. -/
theorem lay_bits (k l : Nat) (b v m : Int) (hb : 0 ≤ b ∧ b ≤ 65535) (hv : 0 ≤ v ∧ v < 2 ^ k) (hm : m = (((2 ^ k - 1) * 2 ^ l : Nat) : Int)) (hm2 : (2 ^ k - 1) * 2 ^ l < 65536) (hkl : 2 ^ k * 2 ^ l ≤ 65536) :
    bits .or .i64 (bits .andNot .i64 b m) (v * (2 ^ l : Nat)) = b + (v - b / (2 ^ l : Nat) % (2 ^ k : Nat)) * (2 ^ l : Nat) := by
  subst hm
  obtain ⟨x, rfl⟩ := Int.eq_ofNat_of_zero_le hb.1
  obtain ⟨y, rfl⟩ := Int.eq_ofNat_of_zero_le hv.1
  have hy : y < 2 ^ k := by have := hv.2; exact_mod_cast this
  have hx : x < 65536 := by omega
  have hy2 : y * 2 ^ l < 65536 := Nat.lt_of_lt_of_le (Nat.mul_lt_mul_of_pos_right hy (Nat.two_pow_pos l)) hkl
  rw [andNot_nat x _ hx hm2, show (y : Int) * ((2 ^ l : Nat) : Int) = ((y * 2 ^ l : Nat) : Int) by rw [Int.natCast_mul],
    or_nat _ _ (by have : x &&& (2 ^ 64 - ((2 ^ k - 1) * 2 ^ l + 1)) ≤ x := Nat.and_le_left; omega) hy2, lay_nat k l x y (by omega) hy (by omega)]
  have e1 := Nat.div_add_mod x (2 ^ l)
  have e2 := Nat.div_add_mod (x / 2 ^ l) (2 ^ k)
  rw [← Int.natCast_ediv, ← Int.natCast_emod]
  generalize 2 ^ l = L at *
  generalize 2 ^ k = K at *
  generalize x / L / K = q at *
  generalize x / L % K = r at *
  generalize x % L = s at *
  rw [← e2] at e1
  subst e1
  push_cast
  rw [Int.mul_add, Int.mul_add, Int.sub_mul]
  have : (y : Int) * L = L * y := Int.mul_comm _ _
  have : (r : Int) * L = L * r := Int.mul_comm _ _
  omega

/-- What Of reckons. -/
theorem and_mask (x : Int) (k : Nat) (m : Int) (hm : m = ((2 ^ k - 1 : Nat) : Int)) (hx : 0 ≤ x ∧ x ≤ 65535) (hk : 2 ^ k - 1 < 65536) : bits .and .i64 x m = x % (2 ^ k : Nat) := by
  subst hm
  obtain ⟨y, rfl⟩ := Int.eq_ofNat_of_zero_le hx.1
  rw [and_nat y _ (by omega) hk, Nat.and_two_pow_sub_one_eq_mod, ← Int.natCast_emod]
end Go.Proofs.YtojihkejlmggcaaDoor.Fl

namespace Go.Proofs.YtojihkejlmggcaaDoor
open Go.RowKit

def tabL : List Int := [15, 1, 11, 15, 10, 1, 9, 1, 8, 1, 7, 1, 5, 1, 4, 1, 0, 15]
/-- The table of places reads as the program's text lays it. -/
def Tab (w : World) : Prop := ∀ i (h : i < tabL.length), w.cell? ⟨0, i, none⟩ = some (.int .i64 tabL[i])
theorem Tab.keeps {w w' : World} (h : Tab w) (k : Keeps w w') : Tab w' := fun i hi => (Below.cell k (World.block_lt_of_cell? w _ (h i hi))).trans (h i hi)

theorem isField_any (f : Int) (w : World) :
    Calls Tryd.prog 31 #[.int .i64 f] w fun e w' => e = .returned (.bool (Fl.isF f)) ∧ w' = w := by
  by_cases h1 : 0 ≤ f
  · by_cases h2 : f < 9
    · go_enter Tryd.func31, Tryd.ntmps31
      go_wp2
      go_ret
      exact ⟨ret_bool (by simp [Fl.isF]; omega), rfl⟩
    · go_enter Tryd.func31, Tryd.ntmps31
      go_wp2
      go_ret
      exact ⟨ret_bool (by simp [Fl.isF]; omega), rfl⟩
  · go_enter Tryd.func31, Tryd.ntmps31
    go_wp2
    go_ret
    exact ⟨ret_bool (by simp [Fl.isF]; omega), rfl⟩

theorem areBits_any (b : Int) (w : World) :
    Calls Tryd.prog 32 #[.int .i64 b] w fun e w' => e = .returned (.bool (Fl.isB b)) ∧ w' = w := by
  by_cases h1 : 0 ≤ b
  · by_cases h2 : b ≤ 65535
    · go_enter Tryd.func32, Tryd.ntmps32
      go_wp2
      go_ret
      exact ⟨ret_bool (by simp [Fl.isB]; omega), rfl⟩
    · go_enter Tryd.func32, Tryd.ntmps32
      go_wp2
      go_ret
      exact ⟨ret_bool (by simp [Fl.isB]; omega), rfl⟩
  · go_enter Tryd.func32, Tryd.ntmps32
    go_wp2
    go_ret
    exact ⟨ret_bool (by simp [Fl.isB]; omega), rfl⟩

theorem Tab.at {w : World} (T : Tab w) (i : Nat) (x : Int) (h : tabL[i]? = some x) : w.cell? ⟨0, i, none⟩ = some (.int .i64 x) := by
  have hi := (List.getElem?_eq_some_iff.1 h).1
  rw [T i hi]
  rw [List.getElem?_eq_getElem hi] at h
  rw [Option.some.inj h]

set_option maxHeartbeats 1600000 in
theorem of_any (f b : Int) (w : World) (T : Tab w) :
    Calls Tryd.prog 27 #[.int .i64 f, .int .i64 b] w fun e w' => e = .returned (.int .i64 (Fl.of f b)) ∧ Keeps w w' := by
  by_cases hf : Fl.isF f = true
  · by_cases hb : Fl.isB b = true
    · have hof : Fl.of f b = Fl.get f b := by simp [Fl.of, hf, hb]
      have hb' : 0 ≤ b ∧ b ≤ 65535 := by simpa [Fl.isB] using hb
      rw [hof]
      rcases Fl.field hf with rfl | rfl | rfl | rfl | rfl | rfl | rfl | rfl | rfl
      · have c0 := T.at 0 15 rfl
        have c1 := T.at 1 1 rfl
        clear T
        have e1 : bits .and .i64 (b / 32768) 1 = Fl.get 0 b := by
          rw [Fl.and_mask _ 1 1 rfl (by omega) (by decide)]
          rfl
        go_enter Tryd.func27, Tryd.ntmps27
        go_wp2_with (first | (go_at_call 31; refine (isField_any _ _).mono ?_; rintro e w5 ⟨rfl, hw⟩; subst hw; rw [hf]) | (go_at_call 32; refine (areBits_any _ _).mono ?_; rintro e w5 ⟨rfl, hw⟩; subst hw; rw [hb]))
        go_region
        all_goals (go_wp2; go_ret; exact ⟨rfl, (Keeps.refl _).drewN _⟩)
      · have c0 := T.at 2 11 rfl
        have c1 := T.at 3 15 rfl
        clear T
        have e1 : bits .and .i64 (b / 2048) 15 = Fl.get 1 b := by
          rw [Fl.and_mask _ 4 15 rfl (by omega) (by decide)]
          simp [Fl.get, Fl.pw, Fl.sz]
        go_enter Tryd.func27, Tryd.ntmps27
        go_wp2_with (first | (go_at_call 31; refine (isField_any _ _).mono ?_; rintro e w5 ⟨rfl, hw⟩; subst hw; rw [hf]) | (go_at_call 32; refine (areBits_any _ _).mono ?_; rintro e w5 ⟨rfl, hw⟩; subst hw; rw [hb]))
        go_region
        all_goals (go_wp2; go_ret; exact ⟨rfl, (Keeps.refl _).drewN _⟩)
      · have c0 := T.at 4 10 rfl
        have c1 := T.at 5 1 rfl
        clear T
        have e1 : bits .and .i64 (b / 1024) 1 = Fl.get 2 b := by
          rw [Fl.and_mask _ 1 1 rfl (by omega) (by decide)]
          rfl
        go_enter Tryd.func27, Tryd.ntmps27
        go_wp2_with (first | (go_at_call 31; refine (isField_any _ _).mono ?_; rintro e w5 ⟨rfl, hw⟩; subst hw; rw [hf]) | (go_at_call 32; refine (areBits_any _ _).mono ?_; rintro e w5 ⟨rfl, hw⟩; subst hw; rw [hb]))
        go_region
        all_goals (go_wp2; go_ret; exact ⟨rfl, (Keeps.refl _).drewN _⟩)
      · have c0 := T.at 6 9 rfl
        have c1 := T.at 7 1 rfl
        clear T
        have e1 : bits .and .i64 (b / 512) 1 = Fl.get 3 b := by
          rw [Fl.and_mask _ 1 1 rfl (by omega) (by decide)]
          rfl
        go_enter Tryd.func27, Tryd.ntmps27
        go_wp2_with (first | (go_at_call 31; refine (isField_any _ _).mono ?_; rintro e w5 ⟨rfl, hw⟩; subst hw; rw [hf]) | (go_at_call 32; refine (areBits_any _ _).mono ?_; rintro e w5 ⟨rfl, hw⟩; subst hw; rw [hb]))
        go_region
        all_goals (go_wp2; go_ret; exact ⟨rfl, (Keeps.refl _).drewN _⟩)
      · have c0 := T.at 8 8 rfl
        have c1 := T.at 9 1 rfl
        clear T
        have e1 : bits .and .i64 (b / 256) 1 = Fl.get 4 b := by
          rw [Fl.and_mask _ 1 1 rfl (by omega) (by decide)]
          rfl
        go_enter Tryd.func27, Tryd.ntmps27
        go_wp2_with (first | (go_at_call 31; refine (isField_any _ _).mono ?_; rintro e w5 ⟨rfl, hw⟩; subst hw; rw [hf]) | (go_at_call 32; refine (areBits_any _ _).mono ?_; rintro e w5 ⟨rfl, hw⟩; subst hw; rw [hb]))
        go_region
        all_goals (go_wp2; go_ret; exact ⟨rfl, (Keeps.refl _).drewN _⟩)
      · have c0 := T.at 10 7 rfl
        have c1 := T.at 11 1 rfl
        clear T
        have e1 : bits .and .i64 (b / 128) 1 = Fl.get 5 b := by
          rw [Fl.and_mask _ 1 1 rfl (by omega) (by decide)]
          rfl
        go_enter Tryd.func27, Tryd.ntmps27
        go_wp2_with (first | (go_at_call 31; refine (isField_any _ _).mono ?_; rintro e w5 ⟨rfl, hw⟩; subst hw; rw [hf]) | (go_at_call 32; refine (areBits_any _ _).mono ?_; rintro e w5 ⟨rfl, hw⟩; subst hw; rw [hb]))
        go_region
        all_goals (go_wp2; go_ret; exact ⟨rfl, (Keeps.refl _).drewN _⟩)
      · have c0 := T.at 12 5 rfl
        have c1 := T.at 13 1 rfl
        clear T
        have e1 : bits .and .i64 (b / 32) 1 = Fl.get 6 b := by
          rw [Fl.and_mask _ 1 1 rfl (by omega) (by decide)]
          rfl
        go_enter Tryd.func27, Tryd.ntmps27
        go_wp2_with (first | (go_at_call 31; refine (isField_any _ _).mono ?_; rintro e w5 ⟨rfl, hw⟩; subst hw; rw [hf]) | (go_at_call 32; refine (areBits_any _ _).mono ?_; rintro e w5 ⟨rfl, hw⟩; subst hw; rw [hb]))
        go_region
        all_goals (go_wp2; go_ret; exact ⟨rfl, (Keeps.refl _).drewN _⟩)
      · have c0 := T.at 14 4 rfl
        have c1 := T.at 15 1 rfl
        clear T
        have e1 : bits .and .i64 (b / 16) 1 = Fl.get 7 b := by
          rw [Fl.and_mask _ 1 1 rfl (by omega) (by decide)]
          rfl
        go_enter Tryd.func27, Tryd.ntmps27
        go_wp2_with (first | (go_at_call 31; refine (isField_any _ _).mono ?_; rintro e w5 ⟨rfl, hw⟩; subst hw; rw [hf]) | (go_at_call 32; refine (areBits_any _ _).mono ?_; rintro e w5 ⟨rfl, hw⟩; subst hw; rw [hb]))
        go_region
        all_goals (go_wp2; go_ret; exact ⟨rfl, (Keeps.refl _).drewN _⟩)
      · have c0 := T.at 16 0 rfl
        have c1 := T.at 17 15 rfl
        clear T
        have e1 : bits .and .i64 (b) 15 = Fl.get 8 b := by
          rw [Fl.and_mask _ 4 15 rfl (by omega) (by decide)]
          simp [Fl.get, Fl.pw, Fl.sz]
        go_enter Tryd.func27, Tryd.ntmps27
        go_wp2_with (first | (go_at_call 31; refine (isField_any _ _).mono ?_; rintro e w5 ⟨rfl, hw⟩; subst hw; rw [hf]) | (go_at_call 32; refine (areBits_any _ _).mono ?_; rintro e w5 ⟨rfl, hw⟩; subst hw; rw [hb]))
        go_region
        all_goals (go_wp2; go_ret; exact ⟨rfl, (Keeps.refl _).drewN _⟩)
    · simp only [Bool.not_eq_true] at hb
      have hof : Fl.of f b = 0 := by simp [Fl.of, hb]
      rw [hof]
      go_enter Tryd.func27, Tryd.ntmps27
      go_wp2_with (first | (go_at_call 31; refine (isField_any _ _).mono ?_; rintro e w5 ⟨rfl, hw⟩; subst hw; rw [hf]) | (go_at_call 32; refine (areBits_any _ _).mono ?_; rintro e w5 ⟨rfl, hw⟩; subst hw; rw [hb]))
      go_ret
      exact ⟨rfl, Keeps.refl _⟩
  · simp only [Bool.not_eq_true] at hf
    have hof : Fl.of f b = 0 := by simp [Fl.of, hf]
    rw [hof]
    go_enter Tryd.func27, Tryd.ntmps27
    go_wp2_with (first | (go_at_call 31; refine (isField_any _ _).mono ?_; rintro e w5 ⟨rfl, hw⟩; subst hw; rw [hf]) | (go_at_call 32; refine (areBits_any _ _).mono ?_; rintro e w5 ⟨rfl, hw⟩; subst hw; rw [hb]))
    go_ret
    exact ⟨rfl, Keeps.refl _⟩

end Go.Proofs.YtojihkejlmggcaaDoor
