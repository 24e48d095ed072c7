/- Plain functions on bytes and numbers: what layer 1 answers. No condition. -/
import Derived.WalkKit
namespace Go.Proofs.Ythoominldliphaa.Oct

/-- Is it a size that a number can have? -/
def sizedB (k : Int) : Bool := decide (1 ≤ k ∧ k ≤ 4)
/-- Has s so many bytes from p on? -/
def takeOk (s : ByteArray) (p k : Int) : Bool := decide (0 ≤ p ∧ 0 ≤ k ∧ k ≤ (s.size : Int) - p)
def takeS (s : ByteArray) (p k : Int) : ByteArray := if takeOk s p k = true then s.extract p.toNat (p + k).toNat else ⟨#[]⟩
/-- The number of bytes, the highest first. -/
def numL (l : List UInt8) : Int := l.foldl (fun n c => 256 * n + (c.toNat : Int)) 0
def getOk (s : ByteArray) (p k : Int) : Bool := sizedB k && takeOk s p k
def getN (s : ByteArray) (p k : Int) : Int := if getOk s p k = true then numL (takeS s p k).data.toList else 0
/-- The lowest k bytes of n, the highest first. -/
def beL (n : Nat) : Nat → List UInt8
  | 0 => []
  | k + 1 => beL (n / 256) k ++ [UInt8.ofNat (n % 256)]
def putOk (n k : Int) : Bool := decide (1 ≤ k ∧ k ≤ 4 ∧ 0 ≤ n ∧ n < 256 ^ k.toNat)
def putS (n k : Int) : ByteArray := if putOk n k = true then ⟨(beL n.toNat k.toNat).toArray⟩ else ⟨#[]⟩
def layOk (s : ByteArray) (p : Int) (t : ByteArray) : Bool := takeOk s p t.size
def layS (s : ByteArray) (p : Int) (t : ByteArray) : ByteArray :=
  if layOk s p t = true then ⟨(s.data.toList.take p.toNat ++ t.data.toList ++ s.data.toList.drop (p.toNat + t.size)).toArray⟩ else ⟨#[]⟩

theorem numL_nil : numL [] = 0 := rfl
theorem numL_snoc (l : List UInt8) (c : UInt8) : numL (l ++ [c]) = 256 * numL l + (c.toNat : Int) := by simp [numL]
theorem numL_bound : ∀ (l : List UInt8), 0 ≤ numL l ∧ numL l < 256 ^ l.length := by
  intro l
  rw [← List.reverse_reverse l]
  generalize l.reverse = r
  induction r with
  | nil => simp [numL]
  | cons c r ih =>
    rw [List.reverse_cons, numL_snoc]
    have hc : c.toNat < 256 := UInt8.toNat_lt c
    rw [List.length_append, List.length_singleton, Int.pow_succ]
    constructor
    · omega
    · have := ih.2
      have h2 : (256 : Int) ^ r.reverse.length ≥ numL r.reverse + 1 := by omega
      omega

theorem wraps_i64 (n : Int) (h₀ : 0 ≤ n) (h₁ : n < 2 ^ 63) : IntKind.i64.wrap n = n := by rw [IntKind.wrap_i64]; omega
open Go.RowKit in
theorem or_join (x : Int) (c : UInt8) (h0 : 0 ≤ x) (h1 : x < 16777216) :
    bits .or .i64 (x * 256) (wrap64 (c.toNat : Int)) = 256 * x + (c.toNat : Int) := by
  have hc : c.toNat < 256 := UInt8.toNat_lt c
  have e2 : wrap64 (c.toNat : Int) = (c.toNat : Int) := by unfold wrap64; omega
  rw [e2, bits_join .i64 63 (by decide) wraps_i64 8 (x * 256) c.toNat (by omega) (by omega) (by omega) (by omega) (by omega) (by omega)]
  omega
theorem take_snoc (s : ByteArray) (k : Nat) (h : k < s.size) : s.data.toList.take (k + 1) = s.data.toList.take k ++ [s[k]] := by
  rw [List.take_succ_eq_append_getElem (by simpa using h)]; rfl
/-- A number of fewer than four bytes. -/
theorem numL_lt3 (l : List UInt8) (h : l.length ≤ 3) : 0 ≤ numL l ∧ numL l < 16777216 := by
  have hb := numL_bound l
  have hl : l.length = 0 ∨ l.length = 1 ∨ l.length = 2 ∨ l.length = 3 := by omega
  rcases hl with e | e | e | e <;> rw [e] at hb <;> omega
theorem numL_lt4 (l : List UInt8) (h : l.length ≤ 4) : 0 ≤ numL l ∧ numL l < 4294967296 := by
  have hb := numL_bound l
  have hl : l.length = 0 ∨ l.length = 1 ∨ l.length = 2 ∨ l.length = 3 ∨ l.length = 4 := by omega
  rcases hl with e | e | e | e | e <;> rw [e] at hb <;> omega
theorem takeS_size (s : ByteArray) (p k : Int) (h : takeOk s p k = true) : ((takeS s p k).size : Int) = k := by
  have h2 := h
  simp only [takeOk, decide_eq_true_eq] at h2
  simp only [takeS, h, if_true, ByteArray.size_extract]
  omega

theorem u8ofNat (m : Nat) : ((UInt8.ofNat m).toNat : Int) = (m % 256 : Nat) := by simp
theorem beL_1 (n : Int) (h0 : 0 ≤ n) (h1 : n < 256) : (beL n.toNat 1).map (fun c => Value.int .u8 (c.toNat : Int)) = [.int .u8 n] := by
  simp only [beL, List.nil_append, List.map_cons, List.map_nil, u8ofNat, List.cons.injEq, Value.int.injEq, and_true, true_and]
  omega
theorem beL_2 (n : Int) (h0 : 0 ≤ n) (h1 : n < 65536) : (beL n.toNat 2).map (fun c => Value.int .u8 (c.toNat : Int)) = [.int .u8 (n / 256), .int .u8 (n % 256)] := by
  simp only [beL, List.nil_append, List.cons_append, List.map_cons, List.map_nil, u8ofNat, List.cons.injEq, Value.int.injEq, and_true, true_and]
  omega
theorem beL_3 (n : Int) (h0 : 0 ≤ n) (h1 : n < 16777216) : (beL n.toNat 3).map (fun c => Value.int .u8 (c.toNat : Int)) = [.int .u8 (n / 65536), .int .u8 (n / 256 % 256), .int .u8 (n % 256)] := by
  simp only [beL, List.nil_append, List.cons_append, List.map_cons, List.map_nil, u8ofNat, List.cons.injEq, Value.int.injEq, and_true, true_and]
  omega
theorem beL_4 (n : Int) (h0 : 0 ≤ n) (h1 : n < 4294967296) : (beL n.toNat 4).map (fun c => Value.int .u8 (c.toNat : Int)) = [.int .u8 (n / 16777216), .int .u8 (n / 65536 % 256), .int .u8 (n / 256 % 256), .int .u8 (n % 256)] := by
  simp only [beL, List.nil_append, List.cons_append, List.map_cons, List.map_nil, u8ofNat, List.cons.injEq, Value.int.injEq, and_true, true_and]
  omega
theorem beL_length (n : Nat) (k : Nat) : (beL n k).length = k := by
  induction k generalizing n with
  | zero => rfl
  | succ k ih => simp [beL, ih]
theorem putS_yes (n k : Int) (h : putOk n k = true) : putS n k = ⟨(beL n.toNat k.toNat).toArray⟩ := by simp [putS, h]
theorem putS_no (n k : Int) (h : putOk n k = false) : putS n k = ⟨#[]⟩ := by simp [putS, h]
theorem and255 (x : Int) (h0 : 0 ≤ x) (h1 : x ≤ 9223372036854775807) : bits .and .i64 x 255 = x % 256 :=
  bits_mask .i64 63 (by decide) wraps_i64 8 (by decide) x h0 (by omega)
theorem beL_step (m d j : Nat) (_h : 0 < d) : beL (m / 256 ^ (d - 1)) (j + 1) = beL (m / 256 ^ d) j ++ [UInt8.ofNat (m / 256 ^ (d - 1) % 256)] := by
  obtain ⟨e, rfl⟩ : ∃ e, d = e + 1 := ⟨d - 1, by omega⟩
  simp only [beL, Nat.add_sub_cancel, Nat.div_div_eq_div_mul, Nat.pow_succ]
theorem byte_cell (x : Int) (m : Nat) (h : x = (m : Int)) : Value.int .u8 (x % 256) = .int .u8 (((UInt8.ofNat (m % 256)).toNat : Nat) : Int) := by
  subst h
  simp

/-- The bytes s behind i of t's bytes laid from q on. -/
def laid (s : List UInt8) (q : Nat) (t : List UInt8) (i : Nat) : List UInt8 := s.take q ++ t.take i ++ s.drop (q + i)
theorem laid_zero (s : List UInt8) (q : Nat) (t : List UInt8) : laid s q t 0 = s := by simp [laid]
theorem laid_length (s : List UInt8) (q : Nat) (t : List UInt8) (i : Nat) (hi : i ≤ t.length) (hq : q + t.length ≤ s.length) : (laid s q t i).length = s.length := by
  simp [laid]; omega
theorem laid_step (s : List UInt8) (q : Nat) (t : List UInt8) (i : Nat) (hi : i < t.length) (hq : q + t.length ≤ s.length) : (laid s q t i).set (q + i) t[i] = laid s q t (i + 1) := by
  apply List.ext_getElem?
  intro j
  simp only [laid, List.getElem?_set, List.getElem?_append, List.length_append, List.length_take, List.getElem?_take, List.getElem?_drop]
  have e1 : min q s.length = q := by omega
  have e2 : min i t.length = i := by omega
  have e3 : min (i + 1) t.length = i + 1 := by omega
  rw [e1, e2, e3]
  by_cases a : q + i = j
  · subst a
    have hle : (s.drop (q + i)).length = s.length - (q + i) := by simp
    have b : q + i < q + i + (s.drop (q + i)).length := by omega
    have c1 : q + i < q + (i + 1) := by omega
    have c2 : ¬ q + i < q := by omega
    have c3 : q + i - q = i := by omega
    simp only [if_true, b, c1, c2, if_false, c3, Nat.lt_succ_self]
    exact (List.getElem?_eq_getElem hi).symm
  · simp only [a, if_false]
    by_cases b : j < q
    · simp [show j < q + i by omega, show j < q + (i + 1) by omega, b]
    · by_cases c : j < q + i
      · simp [c, show j < q + (i + 1) by omega, b, show j - q < i by omega, show j - q < i + 1 by omega]
      · simp [c, show ¬ j < q + (i + 1) by omega]
        congr 1
        omega
theorem layS_yes (s : ByteArray) (q : Nat) (t : ByteArray) (h : layOk s q t = true) : layS s q t = ⟨(laid s.data.toList q t.data.toList t.size).toArray⟩ := by
  simp only [layS, h, if_true, laid, Int.toNat_natCast]
  rw [List.take_of_length_le (l := t.data.toList) (by simp)]
theorem layS_no (s : ByteArray) (p : Int) (t : ByteArray) (h : layOk s p t = false) : layS s p t = ⟨#[]⟩ := by simp [layS, h]
end Go.Proofs.Ythoominldliphaa.Oct
