/- Plain functions on bytes and numbers: what layer 1 answers. No condition. Plain facts on numbers as bytes: order, sizes, and back. No condition. What octet's calls without a loop answer, for every input. What octet.Get, and the document's, answer, for every input. What octet.Put answers, for every input. What the document's Put answers, for every input. What octet.Lay, and the document's, answer, for every input. -/
import Derived.WalkKit
import Derived.Test.YtdlaepfnogmebaaRows
import Derived.Test.YtdlaepfnogmebaaBase
import Derived.Deep.QuietTactic
import Derived.BigQuiet
namespace Go.Proofs.Ytdlaepfnogmebaa.Oct

/-- Is it a size that a number can have? -/
def sizedB (k : Int) : Bool := decide (1 ≤ k ∧ k ≤ 4)
/-- Has s so many bytes from p on? -/
def takeOk (s : ByteArray) (p k : Int) : Bool := decide (0 ≤ p ∧ 0 ≤ k ∧ k ≤ (s.size : Int) - p)
def takeS (s : ByteArray) (p k : Int) : ByteArray := if takeOk s p k = true then s.extract p.toNat (p + k).toNat else ⟨#[]⟩
/-- The number of bytes, the highest first. -/
def numL (l : List UInt8) : Int := l.foldl (fun n c => 256 * n + (c.toNat : Int)) 0
def getOk (s : ByteArray) (p k : Int) : Bool := sizedB k && takeOk s p k
def getN (s : ByteArray) (p k : Int) : Int := if getOk s p k = true then numL (takeS s p k).data.toList else 0
/-- The lowest k bytes of n, the highest first. -/
def beL (n : Nat) : Nat → List UInt8
  | 0 => []
  | k + 1 => beL (n / 256) k ++ [UInt8.ofNat (n % 256)]
def putOk (n k : Int) : Bool := decide (1 ≤ k ∧ k ≤ 4 ∧ 0 ≤ n ∧ n < 256 ^ k.toNat)
def putS (n k : Int) : ByteArray := if putOk n k = true then ⟨(beL n.toNat k.toNat).toArray⟩ else ⟨#[]⟩
def layOk (s : ByteArray) (p : Int) (t : ByteArray) : Bool := takeOk s p t.size
def layS (s : ByteArray) (p : Int) (t : ByteArray) : ByteArray :=
  if layOk s p t = true then ⟨(s.data.toList.take p.toNat ++ t.data.toList ++ s.data.toList.drop (p.toNat + t.size)).toArray⟩ else ⟨#[]⟩

theorem numL_nil : numL [] = 0 := rfl
theorem numL_snoc (l : List UInt8) (c : UInt8) : numL (l ++ [c]) = 256 * numL l + (c.toNat : Int) := by simp [numL]
theorem numL_bound : ∀ (l : List UInt8), 0 ≤ numL l ∧ numL l < 256 ^ l.length := by
  intro l
  rw [← List.reverse_reverse l]
  generalize l.reverse = r
  induction r with
  | nil => simp [numL]
  | cons c r ih =>
    rw [List.reverse_cons, numL_snoc]
    have hc : c.toNat < 256 := UInt8.toNat_lt c
    rw [List.length_append, List.length_singleton, Int.pow_succ]
    constructor
    · omega
    · have := ih.2
      have h2 : (256 : Int) ^ r.reverse.length ≥ numL r.reverse + 1 := by omega
      omega

theorem wraps_i64 (n : Int) (h₀ : 0 ≤ n) (h₁ : n < 2 ^ 63) : IntKind.i64.wrap n = n := by rw [IntKind.wrap_i64]; omega
open Go.RowKit in
theorem or_join (x : Int) (c : UInt8) (h0 : 0 ≤ x) (h1 : x < 16777216) :
    bits .or .i64 (x * 256) (wrap64 (c.toNat : Int)) = 256 * x + (c.toNat : Int) := by
  have hc : c.toNat < 256 := UInt8.toNat_lt c
  have e2 : wrap64 (c.toNat : Int) = (c.toNat : Int) := by unfold wrap64; omega
  rw [e2, bits_join .i64 63 (by decide) wraps_i64 8 (x * 256) c.toNat (by omega) (by omega) (by omega) (by omega) (by omega) (by omega)]
  omega
theorem take_snoc (s : ByteArray) (k : Nat) (h : k < s.size) : s.data.toList.take (k + 1) = s.data.toList.take k ++ [s[k]] := by
  rw [List.take_succ_eq_append_getElem (by simpa using h)]; rfl
/-- A number of fewer than four bytes. -/
theorem numL_lt3 (l : List UInt8) (h : l.length ≤ 3) : 0 ≤ numL l ∧ numL l < 16777216 := by
  have hb := numL_bound l
  have hl : l.length = 0 ∨ l.length = 1 ∨ l.length = 2 ∨ l.length = 3 := by omega
  rcases hl with e | e | e | e <;> rw [e] at hb <;> omega
theorem numL_lt4 (l : List UInt8) (h : l.length ≤ 4) : 0 ≤ numL l ∧ numL l < 4294967296 := by
  have hb := numL_bound l
  have hl : l.length = 0 ∨ l.length = 1 ∨ l.length = 2 ∨ l.length = 3 ∨ l.length = 4 := by omega
  rcases hl with e | e | e | e | e <;> rw [e] at hb <;> omega
theorem takeS_size (s : ByteArray) (p k : Int) (h : takeOk s p k = true) : ((takeS s p k).size : Int) = k := by
  have h2 := h
  simp only [takeOk, decide_eq_true_eq] at h2
  simp only [takeS, h, if_true, ByteArray.size_extract]
  omega

theorem u8ofNat (m : Nat) : ((UInt8.ofNat m).toNat : Int) = (m % 256 : Nat) := by simp
theorem beL_1 (n : Int) (h0 : 0 ≤ n) (h1 : n < 256) : (beL n.toNat 1).map (fun c => Value.int .u8 (c.toNat : Int)) = [.int .u8 n] := by
  simp only [beL, List.nil_append, List.map_cons, List.map_nil, u8ofNat, List.cons.injEq, Value.int.injEq, and_true, true_and]
  omega
theorem beL_2 (n : Int) (h0 : 0 ≤ n) (h1 : n < 65536) : (beL n.toNat 2).map (fun c => Value.int .u8 (c.toNat : Int)) = [.int .u8 (n / 256), .int .u8 (n % 256)] := by
  simp only [beL, List.nil_append, List.cons_append, List.map_cons, List.map_nil, u8ofNat, List.cons.injEq, Value.int.injEq, and_true, true_and]
  omega
theorem beL_3 (n : Int) (h0 : 0 ≤ n) (h1 : n < 16777216) : (beL n.toNat 3).map (fun c => Value.int .u8 (c.toNat : Int)) = [.int .u8 (n / 65536), .int .u8 (n / 256 % 256), .int .u8 (n % 256)] := by
  simp only [beL, List.nil_append, List.cons_append, List.map_cons, List.map_nil, u8ofNat, List.cons.injEq, Value.int.injEq, and_true, true_and]
  omega
theorem beL_4 (n : Int) (h0 : 0 ≤ n) (h1 : n < 4294967296) : (beL n.toNat 4).map (fun c => Value.int .u8 (c.toNat : Int)) = [.int .u8 (n / 16777216), .int .u8 (n / 65536 % 256), .int .u8 (n / 256 % 256), .int .u8 (n % 256)] := by
  simp only [beL, List.nil_append, List.cons_append, List.map_cons, List.map_nil, u8ofNat, List.cons.injEq, Value.int.injEq, and_true, true_and]
  omega
theorem beL_length (n : Nat) (k : Nat) : (beL n k).length = k := by
  induction k generalizing n with
  | zero => rfl
  | succ k ih => simp [beL, ih]
theorem putS_yes (n k : Int) (h : putOk n k = true) : putS n k = ⟨(beL n.toNat k.toNat).toArray⟩ := by simp [putS, h]
theorem putS_no (n k : Int) (h : putOk n k = false) : putS n k = ⟨#[]⟩ := by simp [putS, h]
theorem and255 (x : Int) (h0 : 0 ≤ x) (h1 : x ≤ 9223372036854775807) : bits .and .i64 x 255 = x % 256 :=
  bits_mask .i64 63 (by decide) wraps_i64 8 (by decide) x h0 (by omega)
theorem beL_step (m d j : Nat) (_h : 0 < d) : beL (m / 256 ^ (d - 1)) (j + 1) = beL (m / 256 ^ d) j ++ [UInt8.ofNat (m / 256 ^ (d - 1) % 256)] := by
  obtain ⟨e, rfl⟩ : ∃ e, d = e + 1 := ⟨d - 1, by omega⟩
  simp only [beL, Nat.add_sub_cancel, Nat.div_div_eq_div_mul, Nat.pow_succ]
theorem byte_cell (x : Int) (m : Nat) (h : x = (m : Int)) : Value.int .u8 (x % 256) = .int .u8 (((UInt8.ofNat (m % 256)).toNat : Nat) : Int) := by
  subst h
  simp

/-- The bytes s behind i of t's bytes laid from q on. -/
def laid (s : List UInt8) (q : Nat) (t : List UInt8) (i : Nat) : List UInt8 := s.take q ++ t.take i ++ s.drop (q + i)
theorem laid_zero (s : List UInt8) (q : Nat) (t : List UInt8) : laid s q t 0 = s := by simp [laid]
theorem laid_length (s : List UInt8) (q : Nat) (t : List UInt8) (i : Nat) (hi : i ≤ t.length) (hq : q + t.length ≤ s.length) : (laid s q t i).length = s.length := by
  simp [laid]; omega
theorem laid_step (s : List UInt8) (q : Nat) (t : List UInt8) (i : Nat) (hi : i < t.length) (hq : q + t.length ≤ s.length) : (laid s q t i).set (q + i) t[i] = laid s q t (i + 1) := by
  apply List.ext_getElem?
  intro j
  simp only [laid, List.getElem?_set, List.getElem?_append, List.length_append, List.length_take, List.getElem?_take, List.getElem?_drop]
  have e1 : min q s.length = q := by omega
  have e2 : min i t.length = i := by omega
  have e3 : min (i + 1) t.length = i + 1 := by omega
  rw [e1, e2, e3]
  by_cases a : q + i = j
  · subst a
    have hle : (s.drop (q + i)).length = s.length - (q + i) := by simp
    have b : q + i < q + i + (s.drop (q + i)).length := by omega
    have c1 : q + i < q + (i + 1) := by omega
    have c2 : ¬ q + i < q := by omega
    have c3 : q + i - q = i := by omega
    simp only [if_true, b, c1, c2, if_false, c3, Nat.lt_succ_self]
    exact (List.getElem?_eq_getElem hi).symm
  · simp only [a, if_false]
    by_cases b : j < q
    · simp [show j < q + i by omega, show j < q + (i + 1) by omega, b]
    · by_cases c : j < q + i
      · simp [c, show j < q + (i + 1) by omega, b, show j - q < i by omega, show j - q < i + 1 by omega]
      · simp [c, show ¬ j < q + (i + 1) by omega]
        congr 1
        omega
theorem layS_yes (s : ByteArray) (q : Nat) (t : ByteArray) (h : layOk s q t = true) : layS s q t = ⟨(laid s.data.toList q t.data.toList t.size).toArray⟩ := by
  simp only [layS, h, if_true, laid, Int.toNat_natCast]
  rw [List.take_of_length_le (l := t.data.toList) (by simp)]
theorem layS_no (s : ByteArray) (p : Int) (t : ByteArray) (h : layOk s p t = false) : layS s p t = ⟨#[]⟩ := by simp [layS, h]
end Go.Proofs.Ytdlaepfnogmebaa.Oct

namespace Go.Proofs.Ytdlaepfnogmebaa.Oct

theorem less_snoc : ∀ (a b : List UInt8) (c d : UInt8), a.length = b.length → Op.bytesLess (a ++ [c]) (b ++ [d]) = (Op.bytesLess a b || (a == b && decide (c < d)))
  | [], [], c, d, _ => by simp [Op.bytesLess]
  | x :: a, y :: b, c, d, h => by
    have ih := less_snoc a b c d (by simpa using h)
    simp only [List.cons_append, Op.bytesLess, ih]
    by_cases e : x = y
    · subst e
      simp
    · have e' : (x == y) = false := by simp [e]
      rw [e']
      simp [e]
theorem beL_inj (k m n : Nat) (hm : m < 256 ^ k) (hn : n < 256 ^ k) (h : beL m k = beL n k) : m = n := by
  induction k generalizing m n with
  | zero => simp at hm hn; omega
  | succ k ih =>
    simp only [beL] at h
    have h2 := List.append_inj h (by simp [beL_length])
    have h3 := ih (m / 256) (n / 256) (by rw [Nat.pow_succ] at hm; omega) (by rw [Nat.pow_succ] at hn; omega) h2.1
    have h4 : (UInt8.ofNat (m % 256)).toNat = (UInt8.ofNat (n % 256)).toNat := by rw [(List.cons.inj h2.2).1]
    simp at h4
    omega
theorem beL_less (k m n : Nat) (hm : m < 256 ^ k) (hn : n < 256 ^ k) : Op.bytesLess (beL m k) (beL n k) = decide (m < n) := by
  induction k generalizing m n with
  | zero => simp at hm hn; subst hm hn; simp [beL, Op.bytesLess]
  | succ k ih =>
    have hm' : m / 256 < 256 ^ k := by rw [Nat.pow_succ] at hm; omega
    have hn' : n / 256 < 256 ^ k := by rw [Nat.pow_succ] at hn; omega
    simp only [beL]
    rw [less_snoc _ _ _ _ (by simp [beL_length]), ih (m / 256) (n / 256) hm' hn']
    have e1 : (beL (m / 256) k == beL (n / 256) k) = decide (m / 256 = n / 256) := by
      rw [Bool.eq_iff_iff]
      simp
      exact ⟨fun h => beL_inj k _ _ hm' hn' h, fun h => by rw [h]⟩
    have e2 : decide (UInt8.ofNat (m % 256) < UInt8.ofNat (n % 256)) = decide (m % 256 < n % 256) := by
      rw [Bool.eq_iff_iff]
      simp [UInt8.lt_iff_toNat_lt]
    rw [e1, e2, Bool.eq_iff_iff]
    simp
    omega
theorem putOk_spec (n k : Int) : putOk n k = true ↔ 1 ≤ k ∧ k ≤ 4 ∧ 0 ≤ n ∧ n < 256 ^ k.toNat := by simp [putOk]
theorem putS_toList (n k : Int) (h : putOk n k = true) : (putS n k).toList = beL n.toNat k.toNat := by
  rw [putS_yes n k h]; simp
theorem putS_empty (n k : Int) : (putS n k).toList.isEmpty = !putOk n k := by
  by_cases h : putOk n k = true
  · rw [putS_toList n k h, h]
    have h2 := (putOk_spec n k).1 h
    have := beL_length n.toNat k.toNat
    simp
    intro e
    rw [e] at this
    simp at this
    omega
  · simp at h
    rw [putS_no n k h, h]
    decide +kernel
theorem putS_less (a b k : Int) (ha : putOk a k = true) (hb : putOk b k = true) : Op.bytesLess (putS a k).toList (putS b k).toList = decide (a < b) := by
  have h1 := (putOk_spec a k).1 ha
  have h2 := (putOk_spec b k).1 hb
  obtain ⟨m, rfl⟩ := Int.eq_ofNat_of_zero_le h1.2.2.1
  obtain ⟨n, rfl⟩ := Int.eq_ofNat_of_zero_le h2.2.2.1
  have hc : ((256 ^ k.toNat : Nat) : Int) = (256 : Int) ^ k.toNat := Int.natCast_pow 256 _
  rw [putS_toList _ _ ha, putS_toList _ _ hb, Int.toNat_natCast, Int.toNat_natCast, beL_less k.toNat m n (by have := h1.2.2.2; omega) (by have := h2.2.2.2; omega)]
  simp

theorem numL_beL (k n : Nat) (h : n < 256 ^ k) : numL (beL n k) = n := by
  induction k generalizing n with
  | zero => simp at h; subst h; rfl
  | succ k ih =>
    simp only [beL, numL_snoc, u8ofNat]
    rw [ih (n / 256) (by rw [Nat.pow_succ] at h; omega)]
    omega
theorem beL_numL (l : List UInt8) : beL (numL l).toNat l.length = l := by
  rw [← List.reverse_reverse l]
  generalize l.reverse = r
  induction r with
  | nil => rfl
  | cons c r ih =>
    have hb := (numL_bound r.reverse).1
    have hc : c.toNat < 256 := UInt8.toNat_lt c
    rw [List.reverse_cons, numL_snoc, List.length_append, List.length_singleton]
    simp only [beL]
    rw [show (256 * numL r.reverse + (c.toNat : Int)).toNat / 256 = (numL r.reverse).toNat by omega, ih, show (256 * numL r.reverse + (c.toNat : Int)).toNat % 256 = c.toNat by omega]
    simp
theorem numL_append (a b : List UInt8) : numL (a ++ b) = numL a * 256 ^ b.length + numL b := by
  rw [← List.reverse_reverse b]
  generalize b.reverse = r
  induction r with
  | nil => simp [numL]
  | cons c r ih =>
    rw [List.reverse_cons, ← List.append_assoc, numL_snoc, numL_snoc, ih, List.length_append, List.length_singleton, Int.pow_succ, Int.mul_add, ← Int.mul_assoc]
    rw [show (256 : Int) * numL a * 256 ^ r.reverse.length = numL a * (256 ^ r.reverse.length * 256) by rw [Int.mul_comm 256 (numL a), Int.mul_assoc, Int.mul_comm 256]]
    omega
/-- A byte 0 more ahead. -/
theorem beL_zero (k n : Nat) (h : n < 256 ^ k) : beL n (k + 1) = 0 :: beL n k := by
  induction k generalizing n with
  | zero => simp at h; subst h; rfl
  | succ k ih =>
    rw [show beL n (k + 1 + 1) = beL (n / 256) (k + 1) ++ [UInt8.ofNat (n % 256)] from rfl, ih (n / 256) (by rw [Nat.pow_succ] at h; omega)]
    rfl
theorem putOk_nat (n : Nat) (k : Nat) (h1 : 1 ≤ k) (h4 : k ≤ 4) : putOk n k = decide (n < 256 ^ k) := by
  have hc : ((256 ^ k : Nat) : Int) = (256 : Int) ^ k := Int.natCast_pow 256 _
  rw [Bool.eq_iff_iff, putOk_spec]
  simp only [decide_eq_true_eq, Int.toNat_natCast]
  omega

theorem takeOk_spec (s : ByteArray) (p k : Int) : takeOk s p k = true ↔ 0 ≤ p ∧ 0 ≤ k ∧ k ≤ (s.size : Int) - p := by simp [takeOk]
theorem getOk_spec (s : ByteArray) (p k : Int) : getOk s p k = true ↔ (1 ≤ k ∧ k ≤ 4) ∧ takeOk s p k = true := by simp [getOk, sizedB]
theorem takeS_yes (s : ByteArray) (p k : Int) (h : takeOk s p k = true) : takeS s p k = s.extract p.toNat (p + k).toNat := by simp [takeS, h]
theorem toList_size (s : ByteArray) : s.toList.length = s.size := by rw [ByteArray.toList_eq]; rfl

/-- What was put among other bytes is got. -/
theorem get_put (n k : Int) (s : ByteArray) (h : putOk n k = true) :
    getOk (s ++ putS n k ++ s) s.size k = true ∧ getN (s ++ putS n k ++ s) s.size k = n ∧ ((putS n k).size : Int) = k := by
  have hp := (putOk_spec n k).1 h
  obtain ⟨m, rfl⟩ := Int.eq_ofNat_of_zero_le hp.2.2.1
  obtain ⟨j, rfl⟩ := Int.eq_ofNat_of_zero_le (show 0 ≤ k by omega)
  have hc : ((256 ^ j : Nat) : Int) = (256 : Int) ^ j := Int.natCast_pow 256 _
  have hm : m < 256 ^ j := by have := hp.2.2.2; simp only [Int.toNat_natCast] at this; omega
  have hl := beL_length m j
  have hsz : (putS m j).size = j := by
    rw [putS_yes m j h]; simp only [Int.toNat_natCast, ByteArray.size]; simpa using hl
  have hg : getOk (s ++ putS m j ++ s) s.size j = true := by
    rw [getOk_spec, takeOk_spec]
    simp only [ByteArray.size_append, hsz]
    omega
  refine ⟨hg, ?_, by omega⟩
  simp only [getN, hg, if_true]
  rw [takeS_yes _ _ _ ((getOk_spec _ _ _).1 hg).2]
  have he : ((s ++ putS m j ++ s).extract (s.size : Int).toNat ((s.size : Int) + (j : Int)).toNat).data.toList = beL m j := by
    rw [show ((s.size : Int) + (j : Int)).toNat = s.size + j by omega, Int.toNat_natCast, ByteArray.data_extract]
    have hd : (putS m j).data.toList = beL m j := by rw [putS_yes m j h]; simp
    simp only [ByteArray.data_append, Array.toList_extract, Array.toList_append, List.extract_eq_take_drop, hd]
    have hs : s.data.toList.length = s.size := by simp
    rw [List.append_assoc, List.drop_append_of_le_length (by omega), List.drop_of_length_le (by omega), List.nil_append]
    rw [List.take_append_of_le_length (by omega), List.take_of_length_le (by omega)]
  rw [he, numL_beL j m hm]
/-- What is got is put again. -/
theorem put_get (s : ByteArray) (p k : Int) (h : getOk s p k = true) : takeOk s p k = true ∧ putS (getN s p k) k = takeS s p k := by
  have hg := (getOk_spec s p k).1 h
  refine ⟨hg.2, ?_⟩
  have hsz := takeS_size s p k hg.2
  simp only [getN, h, if_true]
  generalize takeS s p k = T at *
  have hb := numL_bound T.data.toList
  have hl : T.data.toList.length = T.size := by simp
  have hk : k.toNat = T.size := by omega
  have hok : putOk (numL T.data.toList) k = true := by
    rw [putOk_spec, hk, ← hl]; omega
  rw [putS_yes _ _ hok, hk, ← hl, beL_numL]
/-- Two parts, one behind the other. -/
theorem take_two (s : ByteArray) (p a b : Int) (_hp : 0 ≤ p) (ha : 0 ≤ a) (hb : 0 ≤ b) : takeOk s p (a + b) = (takeOk s p a && takeOk s (p + a) b) ∧
    (takeOk s p (a + b) = true → takeS s p (a + b) = takeS s p a ++ takeS s (p + a) b) := by
  have h1 : takeOk s p (a + b) = (takeOk s p a && takeOk s (p + a) b) := by
    rw [Bool.eq_iff_iff, Bool.and_eq_true, takeOk_spec, takeOk_spec, takeOk_spec]; omega
  refine ⟨h1, fun h => ?_⟩
  have h2 := h
  rw [h1, Bool.and_eq_true] at h2
  have h3 := (takeOk_spec _ _ _).1 h
  rw [takeS_yes _ _ _ h, takeS_yes _ _ _ h2.1, takeS_yes _ _ _ h2.2]
  apply ByteArray.ext
  apply Array.ext'
  obtain ⟨p, rfl⟩ := Int.eq_ofNat_of_zero_le _hp
  obtain ⟨a, rfl⟩ := Int.eq_ofNat_of_zero_le ha
  obtain ⟨b, rfl⟩ := Int.eq_ofNat_of_zero_le hb
  simp only [ByteArray.data_extract, ByteArray.data_append, Array.toList_extract, Array.toList_append, List.extract_eq_take_drop]
  rw [show ((p : Int) + ((a : Int) + (b : Int))).toNat = p + a + b by omega, show ((p : Int) + (a : Int)).toNat = p + a by omega, show ((p : Int) + (a : Int) + (b : Int)).toNat = p + a + b by omega, Int.toNat_natCast]
  rw [show p + a + b - p = a + b by omega, show p + a - p = a by omega, show p + a + b - (p + a) = b by omega, List.take_add, List.drop_drop]
/-- A number of four bytes is that of two, and of two more. -/
theorem get_four (s : ByteArray) (p : Int) (hp : 0 ≤ p) : getOk s p 4 = (getOk s p 2 && getOk s (p + 2) 2) ∧
    (getOk s p 4 = true → getN s p 4 = getN s p 2 * 65536 + getN s (p + 2) 2) := by
  have ht := take_two s p 2 2 hp (by omega) (by omega)
  have h1 : getOk s p 4 = (getOk s p 2 && getOk s (p + 2) 2) := by
    simp only [getOk, show sizedB 4 = true from rfl, show sizedB 2 = true from rfl, Bool.true_and]
    exact ht.1
  refine ⟨h1, fun h => ?_⟩
  have h2 := h
  rw [h1, Bool.and_eq_true] at h2
  simp only [getN, h, h2.1, h2.2, if_true]
  have hx : takeOk s p (2 + 2) = true := ((getOk_spec _ _ _).1 h).2
  have e := ht.2 hx
  have hs := takeS_size s (p + 2) 2 ((getOk_spec _ _ _).1 h2.2).2
  rw [show takeS s p 4 = takeS s p (2 + 2) from rfl, e, ByteArray.data_append, Array.toList_append, numL_append]
  have hl : (takeS s (p + 2) 2).data.toList.length = 2 := by simp; omega
  rw [hl]
  rfl
theorem getN_bound (s : ByteArray) (p k : Int) : 0 ≤ getN s p k ∧ getN s p k < 4294967296 := by
  by_cases h : getOk s p k = true
  · have hg := (getOk_spec s p k).1 h
    have hsz := takeS_size s p k hg.2
    simp only [getN, h, if_true]
    exact numL_lt4 _ (by simp; omega)
  · simp [getN, h]

theorem lay_facts (s t : ByteArray) (q : Nat) (h : layOk s q t = true) :
    (layS s q t).size = s.size ∧ takeOk (layS s q t) q t.size = true ∧ takeS (layS s q t) q t.size = t ∧
      (layS s q t).extract 0 q = s.extract 0 q ∧ (layS s q t).extract (q + t.size) s.size = s.extract (q + t.size) s.size := by
  have h' := (takeOk_spec s q t.size).1 h
  have hq : q + t.size ≤ s.size := by omega
  have hd : (layS s q t).data.toList = laid s.data.toList q t.data.toList t.size := by rw [layS_yes s q t h]
  have hl := laid_length s.data.toList q t.data.toList t.size (by simp) (by simpa using hq)
  have hsz : (layS s q t).size = s.size := by
    rw [← toList_size, ← toList_size, ByteArray.toList_eq, hd, hl, ByteArray.toList_eq]
  have hsl : s.data.toList.length = s.size := by simp
  have htl : t.data.toList.length = t.size := by simp
  have htk : takeOk (layS s q t) q t.size = true := by rw [takeOk_spec, hsz]; exact h'
  refine ⟨hsz, htk, ?_, ?_, ?_⟩
  · rw [takeS_yes _ _ _ htk]
    apply ByteArray.ext
    apply Array.ext'
    rw [ByteArray.data_extract, Array.toList_extract, List.extract_eq_take_drop, hd, show ((q : Int) + (t.size : Int)).toNat = q + t.size by omega, Int.toNat_natCast]
    simp only [laid]
    rw [List.append_assoc, List.drop_append_of_le_length (by simp; omega), List.drop_of_length_le (by simp; omega), List.nil_append]
    rw [List.take_append_of_le_length (by simp), List.take_of_length_le (by simp), List.take_of_length_le (by simp)]
  · apply ByteArray.ext
    apply Array.ext'
    simp only [ByteArray.data_extract, Array.toList_extract, List.extract_eq_take_drop, hd, laid, List.drop_zero, Nat.sub_zero]
    rw [List.append_assoc, List.take_append_of_le_length (by simp; omega), List.take_take]
    simp
  · apply ByteArray.ext
    apply Array.ext'
    simp only [ByteArray.data_extract, Array.toList_extract, List.extract_eq_take_drop, hd, laid]
    congr 1
    have e : (List.take q s.data.toList ++ List.take t.size t.data.toList).length = q + t.size := by simp; omega
    rw [List.drop_append, List.drop_of_length_le (by omega), List.nil_append, e, Nat.sub_self, List.drop_zero]
end Go.Proofs.Ytdlaepfnogmebaa.Oct

namespace Go.Proofs.Ytdlaepfnogmebaa
open Go.RowKit

theorem sized_any (k : Int) (w : World) :
    Calls Try.prog 117 #[.int .i64 k] w fun e w' => e = .returned (.bool (Oct.sizedB k)) ∧ w' = w := by
  by_cases h1 : 1 ≤ k
  · by_cases h2 : k ≤ 4
    · go_enter Try.func117, Try.ntmps117
      go_wp2
      go_ret
      exact ⟨by simp [Oct.sizedB, h1, h2], rfl⟩
    · go_enter Try.func117, Try.ntmps117
      go_wp2
      go_ret
      exact ⟨by simp [Oct.sizedB, h1]; omega, rfl⟩
  · go_enter Try.func117, Try.ntmps117
    go_wp2
    go_ret
    exact ⟨by simp [Oct.sizedB]; omega, rfl⟩

theorem holds_any (s : ByteArray) (p k : Int) (w : World) (hs : s.size ≤ maxLen) (hp : p ≤ 9223372036854775807) :
    Calls Try.prog 134 #[.string s, .int .i64 p, .int .i64 k] w fun e w' => e = .returned (.bool (Oct.takeOk s p k)) ∧ w' = w := by
  unfold maxLen at hs
  by_cases h1 : 0 ≤ p
  · by_cases h2 : 0 ≤ k
    · by_cases h3 : k ≤ (s.size : Int) - p
      · go_enter Try.func134, Try.ntmps134
        go_wp2
        go_ret
        exact ⟨by simp [Oct.takeOk, h1, h2, h3], rfl⟩
      · go_enter Try.func134, Try.ntmps134
        go_wp2
        go_ret
        exact ⟨by simp [Oct.takeOk, h1, h2]; omega, rfl⟩
    · go_enter Try.func134, Try.ntmps134
      go_wp2
      go_ret
      exact ⟨by simp [Oct.takeOk]; omega, rfl⟩
  · go_enter Try.func134, Try.ntmps134
    go_wp2
    go_ret
    exact ⟨by simp [Oct.takeOk]; omega, rfl⟩

theorem take_any (s : ByteArray) (p k : Int) (w : World) (hs : s.size ≤ maxLen) (hp : p ≤ 9223372036854775807) :
    Calls Try.prog 118 #[.string s, .int .i64 p, .int .i64 k] w fun e w' => e = .returned (.tuple #[.string (Oct.takeS s p k), .bool (Oct.takeOk s p k)]) ∧ w' = w := by
  by_cases h : 0 ≤ p ∧ 0 ≤ k ∧ k ≤ (s.size : Int) - p
  · have hk : Oct.takeOk s p k = true := by simp [Oct.takeOk, h]
    obtain ⟨h1, h2, h3⟩ := h
    have hs' := hs
    unfold maxLen at hs'
    go_enter Try.func118, Try.ntmps118
    go_wp2_with (go_at_call 134; refine (holds_any _ _ _ _ hs hp).mono ?_; rintro e w' ⟨rfl, rfl⟩)
    go_ret2
    exact ⟨by simp [Oct.takeS, hk], rfl⟩
  · have hk : Oct.takeOk s p k = false := by simp [Oct.takeOk]; omega
    clear h
    go_enter Try.func118, Try.ntmps118
    go_wp2_with (go_at_call 134; refine (holds_any _ _ _ _ hs hp).mono ?_; rintro e w' ⟨rfl, rfl⟩)
    go_ret2
    exact ⟨by simp [Oct.takeS, hk], rfl⟩

theorem reftake_any (s : ByteArray) (p k : Int) (w : World) (hs : s.size ≤ maxLen) (hp : p ≤ 9223372036854775807) :
    Calls Try.prog 119 #[.string s, .int .i64 p, .int .i64 k] w fun e w' => e = .returned (.tuple #[.string (Oct.takeS s p k), .bool (Oct.takeOk s p k)]) ∧ w' = w := by
  have hs' := hs
  unfold maxLen at hs'
  by_cases h1 : p < 0
  · have hk : Oct.takeOk s p k = false := by simp [Oct.takeOk]; omega
    go_enter Try.func119, Try.ntmps119
    go_wp2
    go_ret2
    exact ⟨by simp [Oct.takeS, hk], rfl⟩
  · by_cases h2 : k < 0
    · have hk : Oct.takeOk s p k = false := by simp [Oct.takeOk]; omega
      go_enter Try.func119, Try.ntmps119
      go_wp2
      go_ret2
      exact ⟨by simp [Oct.takeS, hk], rfl⟩
    · by_cases h3 : (s.size : Int) < p
      · have hk : Oct.takeOk s p k = false := by simp [Oct.takeOk]; omega
        go_enter Try.func119, Try.ntmps119
        go_wp2
        go_ret2
        exact ⟨by simp [Oct.takeS, hk], rfl⟩
      · by_cases h4 : (s.size : Int) - p < k
        · have hk : Oct.takeOk s p k = false := by simp [Oct.takeOk]; omega
          go_enter Try.func119, Try.ntmps119
          go_wp2
          go_ret2
          exact ⟨by simp [Oct.takeS, hk], rfl⟩
        · have hk : Oct.takeOk s p k = true := by simp [Oct.takeOk]; omega
          go_enter Try.func119, Try.ntmps119
          go_wp2
          go_ret2
          exact ⟨by simp [Oct.takeS, hk], rfl⟩
end Go.Proofs.Ytdlaepfnogmebaa

namespace Go.Proofs.Ytdlaepfnogmebaa
open Go.RowKit

theorem get_any (s : ByteArray) (p k : Int) (w : World) (hs : s.size ≤ maxLen) (hp : p ≤ 9223372036854775807) :
    Calls Try.prog 84 #[.string s, .int .i64 p, .int .i64 k] w fun e w' => e = .returned (.tuple #[.int .i64 (Oct.getN s p k), .bool (Oct.getOk s p k)]) ∧ w' = w := by
  by_cases h1 : Oct.sizedB k = true
  · by_cases h2 : Oct.takeOk s p k = true
    · have hg : Oct.getOk s p k = true := by simp [Oct.getOk, h1, h2]
      have hb : 1 ≤ k ∧ k ≤ 4 := by simpa [Oct.sizedB] using h1
      have hts := Oct.takeS_size s p k h2
      go_enter Try.func84, Try.ntmps84
      go_wp2_with (first | (go_at_call 117; refine (sized_any _ _).mono ?_; rintro e w' ⟨rfl, rfl⟩) | (go_at_call 118; refine (take_any _ _ _ _ hs hp).mono ?_; rintro e w' ⟨rfl, rfl⟩))
      generalize hT : Oct.takeS s p k = T at *
      have HT : Hid (Oct.takeS s p k = T) := hT
      clear hT
      go_loop [10, 25] (fun n i => ∃ j : Nat, (j : Int) ≤ k ∧ i = .int .i64 j ∧ n = .int .i64 (Oct.numL (T.data.toList.take j))) (fun _ i => (k - intOf i).toNat)
      case atStart => exact ⟨0, by omega, rfl, rfl⟩
      case round =>
        obtain ⟨j, hj, rfl, rfl⟩ := hrel
        by_cases hlt : (j : Int) < k
        · have hjs : j < T.size := by omega
          have hnb := Oct.numL_lt3 (T.data.toList.take j) (by have := List.length_take_le j T.data.toList; omega)
          go_wp2
          go_round
          case rel => exact ⟨j + 1, by omega, by go_num, by rw [Oct.or_join _ _ hnb.1 hnb.2, Oct.take_snoc T j hjs, Oct.numL_snoc]⟩
          case measure => simp [intOf]; omega
        · go_wp2
          go_ret2
          exact ⟨ret_int_bool (by simp only [Oct.getN, hg, if_true, HT.out]; rw [List.take_of_length_le (by simp; omega)]) rfl, rfl⟩
    · have hg : Oct.getOk s p k = false := by simp [Oct.getOk, h2]
      go_enter Try.func84, Try.ntmps84
      go_wp2_with (first | (go_at_call 117; refine (sized_any _ _).mono ?_; rintro e w' ⟨rfl, rfl⟩) | (go_at_call 118; refine (take_any _ _ _ _ hs hp).mono ?_; rintro e w' ⟨rfl, rfl⟩))
      go_ret2
      exact ⟨by simp [Oct.getN, hg], rfl⟩
  · have hg : Oct.getOk s p k = false := by simp [Oct.getOk, h1]
    go_enter Try.func84, Try.ntmps84
    go_wp2_with (first | (go_at_call 117; refine (sized_any _ _).mono ?_; rintro e w' ⟨rfl, rfl⟩) | (go_at_call 118; refine (take_any _ _ _ _ hs hp).mono ?_; rintro e w' ⟨rfl, rfl⟩))
    go_ret2
    exact ⟨by simp [Oct.getN, hg], rfl⟩

theorem refget_any (s : ByteArray) (p k : Int) (w : World) (hs : s.size ≤ maxLen) (hp : p ≤ 9223372036854775807) :
    Calls Try.prog 85 #[.string s, .int .i64 p, .int .i64 k] w fun e w' => e = .returned (.tuple #[.int .i64 (Oct.getN s p k), .bool (Oct.getOk s p k)]) ∧ w' = w := by
  by_cases h2 : Oct.takeOk s p k = true
  · by_cases h1 : k < 1
    · have hg : Oct.getOk s p k = false := by simp [Oct.getOk, Oct.sizedB]; omega
      go_enter Try.func85, Try.ntmps85
      go_wp2_with (go_at_call 119; refine (reftake_any _ _ _ _ hs hp).mono ?_; rintro e w' ⟨rfl, rfl⟩)
      go_ret2
      exact ⟨by simp [Oct.getN, hg], rfl⟩
    · by_cases h4 : 4 < k
      · have hg : Oct.getOk s p k = false := by simp [Oct.getOk, Oct.sizedB]; omega
        go_enter Try.func85, Try.ntmps85
        go_wp2_with (go_at_call 119; refine (reftake_any _ _ _ _ hs hp).mono ?_; rintro e w' ⟨rfl, rfl⟩)
        go_ret2
        exact ⟨by simp [Oct.getN, hg], rfl⟩
      · have hg : Oct.getOk s p k = true := by simp [Oct.getOk, Oct.sizedB, h2]; omega
        have hts := Oct.takeS_size s p k h2
        go_enter Try.func85, Try.ntmps85
        go_wp2_with (go_at_call 119; refine (reftake_any _ _ _ _ hs hp).mono ?_; rintro e w' ⟨rfl, rfl⟩)
        generalize hT : Oct.takeS s p k = T at *
        have HT : Hid (Oct.takeS s p k = T) := hT
        clear hT
        go_loop [10, 11] (fun n i => ∃ j : Nat, (j : Int) ≤ k ∧ i = .int .i64 j ∧ n = .int .i64 (Oct.numL (T.data.toList.take j))) (fun _ i => (k - intOf i).toNat)
        case atStart => exact ⟨0, by omega, rfl, rfl⟩
        case round =>
          obtain ⟨j, hj, rfl, rfl⟩ := hrel
          by_cases hlt : (j : Int) < k
          · have hjs : j < T.size := by omega
            have hnb := Oct.numL_lt3 (T.data.toList.take j) (by have := List.length_take_le j T.data.toList; omega)
            have hc : (T[j].toNat : Int) < 256 := by have := UInt8.toNat_lt T[j]; omega
            go_wp2
            go_round
            case rel => exact ⟨j + 1, by omega, by go_num, by rw [Oct.take_snoc T j hjs, Oct.numL_snoc]⟩
            case measure => simp [intOf]; omega
          · go_wp2
            go_ret2
            exact ⟨ret_int_bool (by simp only [Oct.getN, hg, if_true, HT.out]; rw [List.take_of_length_le (by simp; omega)]) rfl, rfl⟩
  · have hg : Oct.getOk s p k = false := by simp [Oct.getOk, h2]
    go_enter Try.func85, Try.ntmps85
    go_wp2_with (go_at_call 119; refine (reftake_any _ _ _ _ hs hp).mono ?_; rintro e w' ⟨rfl, rfl⟩)
    go_ret2
    exact ⟨by simp [Oct.getN, hg], rfl⟩
end Go.Proofs.Ytdlaepfnogmebaa

namespace Go.Proofs.Ytdlaepfnogmebaa
open Go.RowKit

end Go.Proofs.Ytdlaepfnogmebaa

namespace Go.Proofs.Ytdlaepfnogmebaa
open Go.RowKit

end Go.Proofs.Ytdlaepfnogmebaa

namespace Go.Proofs.Ytdlaepfnogmebaa
open Go.RowKit

theorem laid_str (s : ByteArray) (q : Nat) (t : ByteArray) (hk : Oct.layOk s q t = true) :
    s.extract 0 q ++ t ++ s.extract (q + t.size) s.size = Oct.layS s q t := by
  rw [Oct.layS_yes s q t hk]
  apply ByteArray.ext
  apply Array.ext'
  simp [Oct.laid, List.take_of_length_le]

end Go.Proofs.Ytdlaepfnogmebaa
