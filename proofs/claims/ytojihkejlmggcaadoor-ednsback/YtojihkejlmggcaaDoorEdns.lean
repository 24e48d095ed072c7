/- What package edns, and the document's answer for it, tell of one OPT record: its record, the limit, the code. The condition: the table of places reads as the program's text lays it. -/
import Derived.Test.YtojihkejlmggcaaDoorFlagLaw
import Derived.Test.YtojihkejlmggcaaDoorMsgR3
namespace Go.Proofs.YtojihkejlmggcaaDoor
open Go.RowKit

/-- What an OPT record says. -/
structure Op where
  has : Bool
  size : Int
  ext : Int
  vers : Int
  dob : Bool
  deriving DecidableEq
def opV (o : Op) : Value := .agg #[.bool o.has, .int .i64 o.size, .int .i64 o.ext, .int .i64 o.vers, .bool o.dob]
def noOp : Op := ⟨false, 0, 0, 0, false⟩
def fitB (n k : Int) : Bool := decide (0 ≤ n ∧ n ≤ k)
def opOk (o : Op) : Bool := o.has && fitB o.size 65535 && fitB o.ext 127 && fitB o.vers 255
def opTtl (o : Op) : Int := o.ext * 16777216 + o.vers * 65536 + (if o.dob then 32768 else 0)
def opRec (o : Op) : Rec := if opOk o then ⟨⟨#[0]⟩, 41, o.size, opTtl o, ⟨#[]⟩⟩ else noRec
def opLimit (o : Op) : Int := if o.has && decide (512 ≤ o.size) then min o.size 4096 else 512
def opCode (b : Int) (o : Op) : Int := Fl.of 8 b + if o.has then 16 * o.ext else 0

theorem ofInt64w (a : Nat) (ha : a < 1099511627776) : (BitVec.ofInt 64 (a : Int)).toNat = a := by
  simp
  omega
theorem and_wide (a b : Nat) (ha : a < 1099511627776) (hb : b < 1099511627776) : bits .and .i64 (a : Int) (b : Int) = ((a &&& b : Nat) : Int) := by
  show IntKind.i64.wrap ((BitVec.ofInt 64 (a : Int) &&& BitVec.ofInt 64 (b : Int)).toNat : Int) = _
  rw [BitVec.toNat_and, ofInt64w a ha, ofInt64w b hb, Fl.wrap_small]
  have : a &&& b ≤ a := Nat.and_le_left
  omega
theorem or_wide (a b : Nat) (ha : a < 1099511627776) (hb : b < 1099511627776) : bits .or .i64 (a : Int) (b : Int) = ((a ||| b : Nat) : Int) := by
  show IntKind.i64.wrap ((BitVec.ofInt 64 (a : Int) ||| BitVec.ofInt 64 (b : Int)).toNat : Int) = _
  rw [BitVec.toNat_or, ofInt64w a ha, ofInt64w b hb, Fl.wrap_small]
  have : a ||| b < 2 ^ 40 := Nat.or_lt_two_pow (by omega) (by omega)
  omega
theorem mask_wide (x : Int) (k : Nat) (m : Int) (hm : m = ((2 ^ k - 1 : Nat) : Int)) (hx : 0 ≤ x ∧ x < 1099511627776) (hk : 2 ^ k - 1 < 1099511627776) : bits .and .i64 x m = x % (2 ^ k : Nat) := by
  subst hm
  obtain ⟨y, rfl⟩ := Int.eq_ofNat_of_zero_le hx.1
  rw [and_wide y _ (by omega) hk, Nat.and_two_pow_sub_one_eq_mod, ← Int.natCast_emod]
/-- Two numbers that have no bit at the same place. -/
theorem or_sum (a b : Int) (k : Nat) (ha : 0 ≤ a ∧ a < 1099511627776) (hb : 0 ≤ b ∧ b < (2 ^ k : Nat)) (hk : 2 ^ k < 1099511627776) (hm : a % (2 ^ k : Nat) = 0) : bits .or .i64 a b = a + b := by
  obtain ⟨x, rfl⟩ := Int.eq_ofNat_of_zero_le ha.1
  obtain ⟨y, rfl⟩ := Int.eq_ofNat_of_zero_le hb.1
  have hy : y < 2 ^ k := by have := hb.2; exact_mod_cast this
  rw [or_wide x y (by omega) (by omega)]
  have hx : x % 2 ^ k = 0 := by rw [← Int.natCast_emod] at hm; exact_mod_cast hm
  have e : x = 2 ^ k * (x / 2 ^ k) := by have := Nat.div_add_mod x (2 ^ k); omega
  have := Nat.two_pow_add_eq_or_of_lt hy (x / 2 ^ k)
  rw [← e] at this
  rw [← this]
  push_cast
  rfl

theorem fits_any (n k : Int) (w : World) :
    Calls Tryd.prog 26 #[.int .i64 n, .int .i64 k] w fun e w' => e = .returned (.bool (fitB n k)) ∧ w' = w := by
  by_cases h1 : 0 ≤ n
  · by_cases h2 : n ≤ k
    · go_enter Tryd.func26, Tryd.ntmps26
      go_wp2
      go_ret
      exact ⟨ret_bool (by simp [fitB]; omega), rfl⟩
    · go_enter Tryd.func26, Tryd.ntmps26
      go_wp2
      go_ret
      exact ⟨ret_bool (by simp [fitB]; omega), rfl⟩
  · go_enter Tryd.func26, Tryd.ntmps26
    go_wp2
    go_ret
    exact ⟨ret_bool (by simp [fitB]; omega), rfl⟩

set_option maxRecDepth 100000 in
theorem limit_any (o : Op) (w : World) :
    Calls Tryd.prog 14 #[opV o] w fun e w' => e = .returned (.int .i64 (opLimit o)) ∧ Keeps w w' := by
  obtain ⟨h, s, x, v, d⟩ := o
  have HF := hide (show opLimit ⟨h, s, x, v, d⟩ = if h && decide (512 ≤ s) then min s 4096 else 512 from rfl)
  unfold opV
  have K := (Keeps.refl w).alloc (.cells #[.bool h, .int .i64 s, .int .i64 x, .int .i64 v, .bool d] 29)
  have KH := hide K
  clear K
  generalize opLimit ⟨h, s, x, v, d⟩ = R at *
  cases h
  · go_enter Tryd.func14, Tryd.ntmps14
    go_wp2
    go_ret
    exact ⟨by rw [HF.out]; rfl, KH.out⟩
  · by_cases h1 : s ≤ 512
    · go_enter Tryd.func14, Tryd.ntmps14
      go_wp2
      go_ret
      exact ⟨ret_int (by rw [HF.out]; split <;> simp_all <;> omega), KH.out⟩
    · go_enter Tryd.func14, Tryd.ntmps14
      go_wp2
      go_ret
      exact ⟨ret_int (by rw [HF.out]; split <;> simp_all <;> omega), KH.out⟩

set_option maxRecDepth 100000 in
theorem reflimit_any (o : Op) (w : World) :
    Calls Tryd.prog 15 #[opV o] w fun e w' => e = .returned (.int .i64 (opLimit o)) ∧ Keeps w w' := by
  obtain ⟨h, s, x, v, d⟩ := o
  have HF := hide (show opLimit ⟨h, s, x, v, d⟩ = if h && decide (512 ≤ s) then min s 4096 else 512 from rfl)
  unfold opV
  have K := (Keeps.refl w).alloc (.cells #[.bool h, .int .i64 s, .int .i64 x, .int .i64 v, .bool d] 33)
  have KH := hide K
  clear K
  generalize opLimit ⟨h, s, x, v, d⟩ = R at *
  cases h
  · go_enter Tryd.func15, Tryd.ntmps15
    go_wp2
    go_ret
    exact ⟨by rw [HF.out]; rfl, KH.out⟩
  · by_cases h1 : s < 512
    · go_enter Tryd.func15, Tryd.ntmps15
      go_wp2
      go_ret
      exact ⟨ret_int (by rw [HF.out]; split <;> simp_all <;> omega), KH.out⟩
    · go_enter Tryd.func15, Tryd.ntmps15
      go_wp2
      go_ret
      exact ⟨ret_int (by rw [HF.out]; split <;> simp_all <;> omega), KH.out⟩

set_option maxRecDepth 100000 in
theorem code_any (b : Int) (o : Op) (w : World) (T : Tab w) (hx : -1099511627776 ≤ o.ext ∧ o.ext ≤ 1099511627776) :
    Calls Tryd.prog 16 #[.int .i64 b, opV o] w fun e w' => e = .returned (.int .i64 (opCode b o)) ∧ Keeps w w' := by
  obtain ⟨h, s, x, v, d⟩ := o
  simp only at hx
  have HF := hide (show opCode b ⟨h, s, x, v, d⟩ = Fl.of 8 b + if h then 16 * x else 0 from rfl)
  have hb := of_bound 8 b
  unfold opV
  have K := hide ((Keeps.refl w).alloc (.cells #[.bool h, .int .i64 s, .int .i64 x, .int .i64 v, .bool d] 29))
  have B := hide (Blk.made w #[.bool h, .int .i64 s, .int .i64 x, .int .i64 v, .bool d] 29)
  have HT := hide T
  clear T
  generalize opCode b ⟨h, s, x, v, d⟩ = R at *
  go_enter Tryd.func16, Tryd.ntmps16
  go_wp2_with fail
  generalize w.alloc (.cells #[.bool h, .int .i64 s, .int .i64 x, .int .i64 v, .bool d] 29) = W at *
  generalize w.heap.size = G at *
  refine (of_any _ _ _ (HT.out.keeps K.out)).mono ?_
  rintro e w1 ⟨rfl, k1⟩
  replace B := B.out.keeps k1
  replace K := hide (K.out.trans k1)
  clear k1
  have c0 := B.cell 0
  have c2 := B.cell 2
  simp only [List.getElem?_toArray] at c0 c2
  generalize Fl.of 8 b = F at *
  clear B HT
  cases h
  · go_wp2
    go_ret
    exact ⟨ret_int (by rw [HF.out]; simp), K.out⟩
  · go_wp2
    go_ret
    exact ⟨ret_int (by rw [HF.out]; simp), K.out⟩
end Go.Proofs.YtojihkejlmggcaaDoor
