/- Plain functions on bytes: what layer 3 answers of letters. No condition. -/
import Derived.Test.YtncgflnjphhhlaaNameMath
namespace Go.Proofs.Ytncgflnjphhhlaa.Mx
open Go.Proofs.Ytncgflnjphhhlaa.Nm (lowB lowL okL)

def isG (c : UInt8) : Bool := decide (65 ≤ c.toNat ∧ c.toNat ≤ 90)
def isS (c : UInt8) : Bool := decide (97 ≤ c.toNat ∧ c.toNat ≤ 122)
def isL (c : UInt8) : Bool := isG c || isS c
def cnt (l : List UInt8) : Nat := l.countP isL
/-- One letter, the k-th, by its bit. -/
def mxB (b k : Nat) (c : UInt8) : UInt8 := if b.testBit (k % 40) = true then lowB c - 32 else lowB c
def mx (b : Nat) : Nat → List UInt8 → List UInt8
  | _, [] => []
  | k, c :: r => if isL c = true then mxB b k c :: mx b (k + 1) r else c :: mx b k r
def btB (k : Nat) (c : UInt8) : Nat := if k < 40 ∧ isG c = true then 2 ^ k else 0
def bt : Nat → List UInt8 → Nat
  | _, [] => 0
  | k, c :: r => if isL c = true then btB k c + bt (k + 1) r else bt k r
/-- 2^j, at most 2^40. -/
def top (j : Nat) : Nat := 2 ^ min j 40

theorem cnt_cons (c : UInt8) (r : List UInt8) : cnt (c :: r) = cnt r + (if isL c = true then 1 else 0) := by simp [cnt, List.countP_cons]
theorem mx_append (b : Nat) : ∀ (k : Nat) (l r : List UInt8), mx b k (l ++ r) = mx b k l ++ mx b (k + cnt l) r
  | k, [], r => by simp [mx, cnt]
  | k, c :: l, r => by
    simp only [List.cons_append, mx, cnt_cons]
    by_cases h : isL c = true
    · simp only [h, if_true, mx_append b (k + 1) l r, List.cons_append]
      rw [show k + (cnt l + 1) = k + 1 + cnt l by omega]
    · simp only [h, Bool.false_eq_true, if_false, mx_append b k l r, List.cons_append, Nat.add_zero]
theorem bt_append : ∀ (k : Nat) (l r : List UInt8), bt k (l ++ r) = bt k l + bt (k + cnt l) r
  | k, [], r => by simp [bt, cnt]
  | k, c :: l, r => by
    simp only [List.cons_append, bt, cnt_cons]
    by_cases h : isL c = true
    · simp only [h, if_true, bt_append (k + 1) l r]
      rw [show k + (cnt l + 1) = k + 1 + cnt l by omega]
      omega
    · simp only [h, Bool.false_eq_true, if_false, bt_append k l r, Nat.add_zero]
theorem cnt_le (l : List UInt8) : cnt l ≤ l.length := List.countP_le_length
theorem mx_length (b : Nat) : ∀ (k : Nat) (l : List UInt8), (mx b k l).length = l.length
  | _, [] => rfl
  | k, c :: r => by
    simp only [mx]
    split <;> simp [mx_length b]

theorem top_succ {k : Nat} (h : k < 40) : top (k + 1) = top k + 2 ^ k := by
  unfold top
  rw [Nat.min_eq_left (by omega), Nat.min_eq_left (by omega), Nat.pow_succ]
  omega
theorem top_big {k : Nat} (h : ¬ k < 40) : top (k + 1) = top k := by
  unfold top
  rw [Nat.min_eq_right (by omega), Nat.min_eq_right (by omega)]
theorem top_low {k : Nat} (h : k ≤ 40) : top k = 2 ^ k := by
  unfold top
  rw [Nat.min_eq_left h]
theorem top_max (k : Nat) : top k ≤ 2 ^ 40 := Nat.pow_le_pow_right (by omega) (Nat.min_le_right _ _)
theorem top_mono {i j : Nat} (h : i ≤ j) : top i ≤ top j := Nat.pow_le_pow_right (by omega) (by omega)
theorem bt_top : ∀ (k : Nat) (l : List UInt8), bt k l + top k ≤ top (k + cnt l)
  | k, [] => by simp [bt, cnt]
  | k, c :: r => by
    rw [cnt_cons]
    simp only [bt]
    by_cases h : isL c = true
    · simp only [h, if_true]
      have ih := bt_top (k + 1) r
      rw [show k + (cnt r + 1) = k + 1 + cnt r by omega]
      by_cases hk : k < 40
      · have := top_succ hk
        have h2 : btB k c ≤ 2 ^ k := by unfold btB; split <;> simp
        omega
      · have := top_big hk
        have h2 : btB k c = 0 := by simp [btB, hk]
        omega
    · simp only [h, Bool.false_eq_true, if_false, Nat.add_zero]
      exact bt_top k r
theorem bt_lt (l : List UInt8) : bt 0 l < top (cnt l) := by
  have := bt_top 0 l
  rw [Nat.zero_add] at this
  have h0 : top 0 = 1 := rfl
  omega

theorem u8_lt (c : UInt8) : c.toNat < 256 := UInt8.toNat_lt c
theorem low_of_L {c : UInt8} (h : isL c = true) : 97 ≤ (lowB c).toNat ∧ (lowB c).toNat ≤ 122 := by
  rw [Nm.lowB_toNat]
  simp only [isL, isG, isS, Bool.or_eq_true, decide_eq_true_eq] at h
  split <;> omega
theorem low_of_not {c : UInt8} (h : ¬ isL c = true) : lowB c = c := by
  simp only [isL, isG, isS, Bool.or_eq_true, decide_eq_true_eq, not_or] at h
  simp only [lowB, h.1, if_false]
theorem low_L (c : UInt8) : isL (lowB c) = isL c := by
  by_cases h : isL c = true
  · have := low_of_L h
    rw [h]
    simp only [isL, isG, isS, Bool.or_eq_true, decide_eq_true_eq]
    omega
  · rw [low_of_not h]
theorem sub32 {c : UInt8} (h : 32 ≤ c.toNat) : (c - 32).toNat = c.toNat - 32 := by
  rw [UInt8.toNat_sub_of_le]
  · rfl
  · exact UInt8.le_iff_toNat_le.2 h
theorem mxB_nat {b k : Nat} {c : UInt8} (h : isL c = true) : (mxB b k c).toNat = (lowB c).toNat - (if b.testBit (k % 40) = true then 32 else 0) := by
  unfold mxB
  have := low_of_L h
  split
  · rw [sub32 (by omega)]
  · simp
theorem mxB_L {b k : Nat} {c : UInt8} (h : isL c = true) : isL (mxB b k c) = true := by
  have h1 := low_of_L h
  have h2 := mxB_nat (b := b) (k := k) h
  simp only [isL, isG, isS, Bool.or_eq_true, decide_eq_true_eq]
  split at h2 <;> omega
theorem mxB_low {b k : Nat} {c : UInt8} (h : isL c = true) : lowB (mxB b k c) = lowB c := by
  have h1 := low_of_L h
  have h2 := mxB_nat (b := b) (k := k) h
  apply UInt8.toNat_inj.1
  rw [Nm.lowB_toNat]
  split at h2
  · rw [if_pos (by omega)]; omega
  · rw [if_neg (by omega)]; omega
theorem mxB_G {b k : Nat} {c : UInt8} (h : isL c = true) : isG (mxB b k c) = b.testBit (k % 40) := by
  have h1 := low_of_L h
  have h2 := mxB_nat (b := b) (k := k) h
  cases hb : b.testBit (k % 40)
  · rw [hb] at h2
    simp only [Bool.false_eq_true, if_false] at h2
    simp only [isG, decide_eq_false_iff_not]
    omega
  · rw [hb] at h2
    simp only [if_true] at h2
    simp only [isG, decide_eq_true_eq]
    omega
theorem mxB_same {b k : Nat} {c d : UInt8} (h : lowB c = lowB d) : mxB b k c = mxB b k d := by simp only [mxB, h]
theorem mxB_id {b k : Nat} {c : UInt8} (h : isL c = true) (hb : b.testBit (k % 40) = isG c) : mxB b k c = c := by
  apply UInt8.toNat_inj.1
  rw [mxB_nat h, hb, Nm.lowB_toNat]
  simp only [isL, isG, isS, Bool.or_eq_true, decide_eq_true_eq] at *
  by_cases hg : 65 ≤ c.toNat ∧ c.toNat ≤ 90
  · simp only [hg, and_self, if_true]; omega
  · simp only [hg, if_false]; omega
theorem mxB_eq {a b k : Nat} {c : UInt8} (h : isL c = true) : mxB a k c = mxB b k c ↔ a.testBit (k % 40) = b.testBit (k % 40) := by
  constructor
  · intro e
    rw [← mxB_G h, ← mxB_G h, e]
  · intro e
    simp only [mxB, e]

theorem mx_low (b : Nat) : ∀ (k : Nat) (l : List UInt8), lowL (mx b k l) = lowL l
  | _, [] => rfl
  | k, c :: r => by
    simp only [mx]
    by_cases h : isL c = true
    · simp only [h, if_true, lowL, List.map_cons, mxB_low h]
      rw [show List.map lowB (mx b (k + 1) r) = List.map lowB r from mx_low b (k + 1) r]
    · simp only [h, Bool.false_eq_true, if_false, lowL, List.map_cons]
      rw [show List.map lowB (mx b k r) = List.map lowB r from mx_low b k r]
theorem mx_ok (b k : Nat) (l : List UInt8) : okL (mx b k l) = okL l := by rw [← Nm.ok_low, mx_low, Nm.ok_low]
theorem cnt_low (l : List UInt8) : cnt (lowL l) = cnt l := by
  induction l with
  | nil => rfl
  | cons c r ih =>
    show cnt (lowB c :: lowL r) = _
    rw [cnt_cons, cnt_cons, ih, low_L]
theorem mx_cnt (b k : Nat) (l : List UInt8) : cnt (mx b k l) = cnt l := by rw [← cnt_low, mx_low, cnt_low]
theorem mx_of_low (b : Nat) : ∀ (k : Nat) (l : List UInt8), mx b k (lowL l) = mx b k l
  | _, [] => rfl
  | k, c :: r => by
    show mx b k (lowB c :: lowL r) = _
    simp only [mx, low_L]
    by_cases h : isL c = true
    · simp only [h, if_true, mx_of_low b (k + 1) r]
      rw [mxB_same (Nm.lowB_twice c)]
    · simp only [h, Bool.false_eq_true, if_false, mx_of_low b k r, low_of_not h]
theorem mx_of_mx (a b k : Nat) (l : List UInt8) : mx a k (mx b k l) = mx a k l := by rw [← mx_of_low, mx_low, mx_of_low]
theorem mx_zero : ∀ (k : Nat) (l : List UInt8), mx 0 k l = lowL l
  | _, [] => rfl
  | k, c :: r => by
    simp only [mx]
    by_cases h : isL c = true
    · simp only [h, if_true, mx_zero (k + 1) r, mxB, Nat.zero_testBit, Bool.false_eq_true, if_false]
      rfl
    · simp only [h, Bool.false_eq_true, if_false, mx_zero k r]
      conv => lhs; rw [← low_of_not h]
      rfl
/-- Of two numbers the same letters come just if they have the same bits. -/
theorem mx_eq (a b : Nat) : ∀ (k : Nat) (l : List UInt8), mx a k l = mx b k l ↔ ∀ j, j < cnt l → a.testBit ((k + j) % 40) = b.testBit ((k + j) % 40)
  | k, [] => by simp [mx, cnt]
  | k, c :: r => by
    rw [cnt_cons]
    simp only [mx]
    by_cases h : isL c = true
    · simp only [h, if_true, List.cons.injEq, mxB_eq h, mx_eq a b (k + 1) r]
      constructor
      · rintro ⟨h0, h1⟩ j hj
        cases j with
        | zero => exact h0
        | succ j =>
          have := h1 j (by omega)
          rw [show k + (j + 1) = k + 1 + j by omega]
          exact this
      · intro h1
        refine ⟨h1 0 (by omega), fun j hj => ?_⟩
        have := h1 (j + 1) (by omega)
        rw [show k + (j + 1) = k + 1 + j by omega] at this
        exact this
    · simp only [h, Bool.false_eq_true, if_false, List.cons.injEq, true_and, Nat.add_zero, mx_eq a b k r]
theorem mod_iff (a b k : Nat) : a % 2 ^ k = b % 2 ^ k ↔ ∀ j, j < k → a.testBit j = b.testBit j := by
  constructor
  · intro h j hj
    have h1 := Nat.testBit_mod_two_pow a k j
    have h2 := Nat.testBit_mod_two_pow b k j
    rw [h, h2] at h1
    simpa [hj] using h1.symm
  · intro h
    apply Nat.eq_of_testBit_eq
    intro j
    rw [Nat.testBit_mod_two_pow, Nat.testBit_mod_two_pow]
    by_cases hj : j < k
    · rw [h j hj]
    · simp [hj]
theorem mx_apart (a b : Nat) (l : List UInt8) : mx a 0 l = mx b 0 l ↔ a % top (cnt l) = b % top (cnt l) := by
  rw [mx_eq, top, mod_iff]
  constructor
  · intro h j hj
    have := h j (by omega)
    rw [Nat.zero_add, Nat.mod_eq_of_lt (by omega)] at this
    exact this
  · intro h j hj
    exact h _ (by have := Nat.mod_le (0 + j) 40; have := Nat.mod_lt (0 + j) (show 0 < 40 by omega); omega)
theorem bt_mx (b : Nat) : ∀ (k : Nat) (l : List UInt8), bt k (mx b k l) + b % top k = b % top (k + cnt l)
  | k, [] => by simp [mx, bt, cnt]
  | k, c :: r => by
    rw [cnt_cons]
    simp only [mx]
    by_cases h : isL c = true
    · simp only [h, if_true, bt, mxB_L h]
      have ih := bt_mx b (k + 1) r
      rw [show k + (cnt r + 1) = k + 1 + cnt r by omega, ← ih]
      by_cases hk : k < 40
      · have e : b % top (k + 1) = b % top k + 2 ^ k * (b.testBit k).toNat := by
          rw [top_low (by omega), top_low (by omega)]
          rw [Nat.mod_pow_succ, Nat.toNat_testBit]
        have e2 : btB k (mxB b k c) = 2 ^ k * (b.testBit k).toNat := by
          simp only [btB, hk, true_and, mxB_G h, Nat.mod_eq_of_lt hk]
          cases b.testBit k <;> simp
        omega
      · have e : b % top (k + 1) = b % top k := by rw [top_big hk]
        have e2 : btB k (mxB b k c) = 0 := by simp [btB, hk]
        omega
    · simp only [h, Bool.false_eq_true, if_false, bt, Nat.add_zero]
      exact bt_mx b k r
theorem bits_mx (b : Nat) (l : List UInt8) : bt 0 (mx b 0 l) = b % top (cnt l) := by
  have := bt_mx b 0 l
  rw [Nat.zero_add] at this
  have h0 : top 0 = 1 := rfl
  rw [h0, Nat.mod_one] at this
  omega
theorem bt_dvd : ∀ (k : Nat) (l : List UInt8), ∃ q, bt k l = 2 ^ k * q
  | _, [] => ⟨0, by simp [bt]⟩
  | k, c :: r => by
    simp only [bt]
    split
    · obtain ⟨q, hq⟩ := bt_dvd (k + 1) r
      refine ⟨(if k < 40 ∧ isG c = true then 1 else 0) + 2 * q, ?_⟩
      rw [hq, Nat.mul_add, Nat.pow_succ, ← Nat.mul_assoc]
      congr 1
      unfold btB
      split <;> simp
    · exact bt_dvd k r
theorem mx_back : ∀ (l : List UInt8) (k x : Nat), k + cnt l ≤ 40 → x < 2 ^ k → mx (x + bt k l) k l = l
  | [], _, _, _, _ => rfl
  | c :: r, k, x, h, hx => by
    rw [cnt_cons] at h
    simp only [mx, bt]
    by_cases hL : isL c = true
    · simp only [hL, if_true] at h ⊢
      have hk : k < 40 := by omega
      have hb : btB k c ≤ 2 ^ k := by unfold btB; split <;> simp
      have ih := mx_back r (k + 1) (x + btB k c) (by omega) (by rw [Nat.pow_succ]; omega)
      rw [Nat.add_assoc] at ih
      rw [ih]
      congr 1
      refine mxB_id hL ?_
      obtain ⟨q, hq⟩ := bt_dvd (k + 1) r
      rw [hq, Nat.mod_eq_of_lt hk]
      cases hg : isG c
      · have e : btB k c = 0 := by simp [btB, hg]
        rw [e, show x + (0 + 2 ^ (k + 1) * q) = 2 ^ k * (2 * q) + x by rw [Nat.pow_succ, ← Nat.mul_assoc]; omega]
        rw [Nat.testBit_two_pow_mul_add _ hx]
        simp
      · have e : btB k c = 2 ^ k := by simp [btB, hg, hk]
        rw [e, show x + (2 ^ k + 2 ^ (k + 1) * q) = 2 ^ k * (2 * q + 1) + x by rw [Nat.pow_succ, Nat.mul_add, ← Nat.mul_assoc]; omega]
        rw [Nat.testBit_two_pow_mul_add _ hx]
        simp
    · simp only [hL, Bool.false_eq_true, if_false, Nat.add_zero] at h ⊢
      rw [mx_back r k x h hx]
theorem mix_back (l : List UInt8) (h : cnt l ≤ 40) : mx (bt 0 l) 0 l = l := by
  have := mx_back l 0 0 (by omega) (by simp)
  rw [Nat.zero_add] at this
  exact this
theorem mx_high : ∀ (k : Nat) (l : List UInt8), ∀ c ∈ mx (2 ^ 40 - 1) k l, isS c = false
  | _, [], c, h => by simp [mx] at h
  | k, d :: r, c, h => by
    simp only [mx] at h
    by_cases hL : isL d = true
    · simp only [hL, if_true, List.mem_cons] at h
      rcases h with rfl | h
      · have h1 := low_of_L hL
        have h2 := mxB_nat (b := 2 ^ 40 - 1) (k := k) hL
        rw [Nat.testBit_two_pow_sub_one] at h2
        have : k % 40 < 40 := Nat.mod_lt _ (by omega)
        simp only [this, decide_true, if_true] at h2
        simp only [isS, decide_eq_false_iff_not]
        omega
      · exact mx_high (k + 1) r c h
    · simp only [hL, Bool.false_eq_true, if_false, List.mem_cons] at h
      rcases h with rfl | h
      · simp only [isL, Bool.or_eq_true, not_or, Bool.not_eq_true] at hL
        exact hL.2
      · exact mx_high k r c h
end Go.Proofs.Ytncgflnjphhhlaa.Mx
