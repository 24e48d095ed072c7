/- What mix.Letters, Bits, Mix, Echoes answer, for every input. -/
import Derived.Test.YtncgflnjphhhlaaMixWalk1
import Derived.Test.YtncgflnjphhhlaaNameWalk4
namespace Go.Proofs.Ytncgflnjphhhlaa
open Go.RowKit

theorem enters {f : FuncId} {fn : Func} {c : Code} (hf : Try.prog.funcs[f]? = some fn) (hname : (fn.name == "runtime.NumGoroutine") = false) (hb : fn.body = some c) (args : Array Value) (w : World) :
    (callFunc f args).run Try.prog w = .ok (.enter f args) w := by
  have h1 : fn.name ≠ "runtime.NumGoroutine" := by simpa using hname
  simp [callFunc, hf, h1, hb, mark]

theorem wraps63 (n : Int) (h₀ : 0 ≤ n) (h₁ : n < 2 ^ 63) : IntKind.i64.wrap n = n := by rw [IntKind.wrap_i64]; omega
theorem or_pow {k x : Nat} (hk : k < 40) (hx : x < 2 ^ k) : bits .or .i64 (x : Int) (wrap64 (2 ^ k)) = ((x + 2 ^ k : Nat) : Int) := by
  have h1 : 2 ^ k ≤ 2 ^ 40 := Nat.pow_le_pow_right (by omega) (by omega)
  have e1 : ((2 : Int) ^ k) = ((2 ^ k : Nat) : Int) := by rw [Int.natCast_pow]; rfl
  have e2 : wrap64 (2 ^ k) = ((2 ^ k : Nat) : Int) := by rw [e1]; unfold wrap64; omega
  rw [e2, (bits_nat .i64 63 (by decide) wraps63 x (2 ^ k) (by omega) (by omega)).2]
  have := Nat.two_pow_add_eq_or_of_lt hx 1
  rw [Nat.mul_one] at this
  rw [Nat.or_comm, ← this, Nat.add_comm]

def lettersOf (n : ByteArray) : Nat := if Nm.okL (bl n) = true then Mx.cnt (bl n) else 0

/-- A block of one number. -/
def OneI (w : World) (B : Nat) (x : Int) : Prop := w.heap[B]? = some (.cells #[.int .i64 x] 3 (0, 0))

theorem letters1_any (B : Nat) (k p : Nat) (x : Nat) (w : World) (hx : x ≤ 1000) (h : OneI w B x) :
    Calls Try.prog 20 #[.int .i64 k, .int .i64 p, .pointer (some ⟨B, 0, none⟩)] w fun e w' => e = .returned (.tuple #[]) ∧ OneI w' B ((x + 1 : Nat) : Int) ∧ (∀ A, A ≤ B → Below A w w') := by
  have hc := cell_of_one h
  have hf := free_of_one h
  have HS := hide (one_setCell (u := .int .i64 ((x + 1 : Nat) : Int)) h)
  clear h
  go_enter Try.func20, Try.ntmps20
  go_wp2
  go_end0
  exact ⟨rfl, HS.out, fun A hA => (Below.refl _ _).setCell hA _⟩

theorem one_new (w : World) (x : Int) : OneI (w.alloc (.cells #[.int .i64 x] 3)) w.heap.size x := heap_alloc_new _ _

theorem letters_any (n : ByteArray) (w : World) (hn : n.size ≤ maxLen) :
    Calls Try.prog 8 #[.string n] w fun e w' => e = .returned (.int .i64 (lettersOf n : Nat)) ∧ Keeps w w' := by
  have hmf : ∀ (fn : Fn) (first cap : Array Value) (w : World), (Instr.makeFunc fn first cap).run Try.prog w = .ok (.func fn first cap) w := fun _ _ _ _ => rfl
  have h1 := one_new w 0
  have hb1 : Below w.heap.size w (w.alloc (.cells #[.int .i64 0] 3)) := (Below.refl _ _).alloc (Nat.le_refl _) _
  by_cases h : Nm.okL (bl n) = true
  · have h255 : n.size ≤ 255 := by have := ((Nm.okL_spec _).1 h).1; rw [bl_length] at this; exact this
    have HF : Hid (lettersOf n = upto n n.size) := by
      unfold Hid lettersOf upto
      rw [if_pos h, List.take_of_length_le (by rw [bl_length]; exact Nat.le_refl _)]
    go_enter Try.func8, Try.ntmps8
    go_wp2_with fail
    refine (each_any n _ _ (fun p w1 => OneI w1 w.heap.size (upto n p : Nat) ∧ Below w.heap.size w w1) _ hn h (enters Try.func20 (by kernel_rfl) rfl) ?y1 ?y2 ⟨h1, hb1⟩).mono ?_
    case y1 =>
      rintro p w1 hp hL ⟨hI, hb⟩
      refine (letters1_any w.heap.size (upto n p) p (upto n p) w1 (by have := upto_le n p; omega) hI).mono ?_
      rintro e w2 ⟨rfl, hI2, hb2⟩
      exact ⟨rfl, by rw [upto_succ n p hp, if_pos hL]; exact hI2, hb.trans (hb2 _ (Nat.le_refl _))⟩
    case y2 =>
      rintro p w1 hp hL ⟨hI, hb⟩
      exact ⟨by rw [upto_succ n p hp, if_neg hL]; exact hI, hb⟩
    rintro e w2 ⟨rfl, hI, hb⟩
    have hc := cell_of_one hI
    clear hI h1 hb1
    go_wp2
    go_ret
    exact ⟨by rw [HF.out]; rfl, hb⟩
  · simp only [Bool.not_eq_true] at h
    have HF : Hid (lettersOf n = 0) := by simp [Hid, lettersOf, h]
    have hc := cell_of_one h1
    go_enter Try.func8, Try.ntmps8
    go_wp2_with fail
    refine (each_no n _ _ hn h).mono ?_
    rintro e w2 ⟨rfl, rfl⟩
    go_wp2
    go_ret
    exact ⟨by rw [HF.out]; rfl, hb1⟩

/-- A block of one text. -/
def OneS (w : World) (B : Nat) (s : ByteArray) : Prop := w.heap[B]? = some (.cells #[.string s] 9 (0, 0))

theorem bits1_set (B B2 : Nat) (n : ByteArray) (k p x : Nat) (w : World) (hp : p < n.size) (hk : k < 40) (hG : Mx.isG n[p] = true) (hx : x < 2 ^ k) (h : OneI w B2 x) (hs : OneS w B n) :
    Calls Try.prog 25 #[.int .i64 k, .int .i64 p, .pointer (some ⟨B, 0, none⟩), .pointer (some ⟨B2, 0, none⟩)] w fun e w' => e = .returned (.tuple #[]) ∧ OneI w' B2 ((x + 2 ^ k : Nat) : Int) ∧ (∀ A, A ≤ B2 → Below A w w') ∧ (∀ j, j ≠ B2 → w'.heap[j]? = w.heap[j]?) := by
  have hc := cell_of_one h
  have hf := free_of_one h
  have hcs := cell_of_one hs
  have HS := hide (one_setCell (u := .int .i64 ((x + 2 ^ k : Nat) : Int)) h)
  have HX := hide (or_pow hk hx)
  clear h hs
  go_enter Try.func25, Try.ntmps25
  go_wp2_with (go_at_call 26; refine (great_any _ _).mono ?_; rintro e w' ⟨rfl, rfl⟩)
  go_region
  go_end0
  rw [HX.out]
  exact ⟨rfl, HS.out, fun A hA => ((Below.refl _ _).setCell hA _).drew, fun j hj => Below.heap_setCell _ _ _ j hj⟩
theorem bits1_not (B B2 : Nat) (n : ByteArray) (k p : Nat) (w : World) (hp : p < n.size) (hG : ¬ (k < 40 ∧ Mx.isG n[p] = true)) (hs : OneS w B n) :
    Calls Try.prog 25 #[.int .i64 k, .int .i64 p, .pointer (some ⟨B, 0, none⟩), .pointer (some ⟨B2, 0, none⟩)] w fun e w' => e = .returned (.tuple #[]) ∧ w' = w := by
  have hcs := cell_of_one hs
  clear hs
  by_cases hk : k < 40
  · have hG2 : Mx.isG n[p] = false := by
      cases e : Mx.isG n[p]
      · rfl
      · exact absurd ⟨hk, e⟩ hG
    clear hG
    go_enter Try.func25, Try.ntmps25
    go_wp2_with (go_at_call 26; refine (great_any _ _).mono ?_; rintro e w' ⟨rfl, rfl⟩)
    go_end0
    exact ⟨rfl, rfl⟩
  · clear hG
    go_enter Try.func25, Try.ntmps25
    go_wp2
    go_end0
    exact ⟨rfl, rfl⟩

def bitsOf (n : ByteArray) : Nat := if Nm.okL (bl n) = true then Mx.bt 0 (bl n) else 0
def btUpto (n : ByteArray) (p : Nat) : Nat := Mx.bt 0 ((bl n).take p)
theorem btUpto_succ (n : ByteArray) (p : Nat) (h : p < n.size) : btUpto n (p + 1) = btUpto n p + (if Mx.isL n[p] = true then Mx.btB (upto n p) n[p] else 0) := by
  have hp : p < (bl n).length := by rw [bl_length]; exact h
  unfold btUpto upto
  rw [List.take_succ_eq_append_getElem hp, Mx.bt_append, show (bl n)[p] = n[p] from rfl, Nat.zero_add]
  simp only [Mx.bt, Nat.add_zero]
  rfl
theorem btUpto_lt (n : ByteArray) (p : Nat) (h : upto n p < 40) : btUpto n p < 2 ^ upto n p := by
  have := Mx.bt_lt ((bl n).take p)
  rw [Mx.top_low (by unfold upto at h; omega)] at this
  exact this
theorem btUpto_max (n : ByteArray) (p : Nat) : btUpto n p < 2 ^ 40 := Nat.lt_of_lt_of_le (Mx.bt_lt ((bl n).take p)) (Mx.top_max _)

theorem bits_any (n : ByteArray) (w : World) (hn : n.size ≤ maxLen) :
    Calls Try.prog 12 #[.string n] w fun e w' => e = .returned (.int .i64 (bitsOf n : Nat)) ∧ Keeps w w' := by
  have hmf : ∀ (fn : Fn) (first cap : Array Value) (w : World), (Instr.makeFunc fn first cap).run Try.prog w = .ok (.func fn first cap) w := fun _ _ _ _ => rfl
  have hsz : (w.alloc (.cells #[.string n] 9)).heap.size = w.heap.size + 1 := by simp
  have h1 : OneI ((w.alloc (.cells #[.string n] 9)).alloc (.cells #[.int .i64 0] 3)) (w.heap.size + 1) 0 := by
    have := one_new (w.alloc (.cells #[.string n] 9)) 0
    rw [hsz] at this
    exact this
  have h2 : OneS ((w.alloc (.cells #[.string n] 9)).alloc (.cells #[.int .i64 0] 3)) w.heap.size n :=
    (Below.heap_alloc _ _ _ (by rw [hsz]; omega)).trans (heap_alloc_new _ _)
  have hb1 : Below w.heap.size w ((w.alloc (.cells #[.string n] 9)).alloc (.cells #[.int .i64 0] 3)) := ((Below.refl _ _).alloc (Nat.le_refl _) _).alloc (by rw [hsz]; omega) _
  clear hsz
  by_cases h : Nm.okL (bl n) = true
  · have HF : Hid (bitsOf n = btUpto n n.size) := by
      unfold Hid bitsOf btUpto
      rw [if_pos h, List.take_of_length_le (by rw [bl_length]; exact Nat.le_refl _)]
    go_enter Try.func12, Try.ntmps12
    go_wp2_with fail
    refine (each_any n _ _ (fun p w1 => OneI w1 (w.heap.size + 1) (btUpto n p : Nat) ∧ OneS w1 w.heap.size n ∧ Below w.heap.size w w1) _ hn h (enters Try.func25 (by kernel_rfl) rfl) ?y1 ?y2 ⟨h1, h2, hb1⟩).mono ?_
    case y1 =>
      rintro p w1 hp hL ⟨hI, hS, hb⟩
      by_cases hG : upto n p < 40 ∧ Mx.isG n[p] = true
      · refine (bits1_set w.heap.size (w.heap.size + 1) n (upto n p) p (btUpto n p) w1 hp hG.1 hG.2 (btUpto_lt n p hG.1) hI hS).mono ?_
        rintro e w2 ⟨rfl, hI2, hb2, ho⟩
        refine ⟨rfl, ?_, ?_, hb.trans (hb2 _ (by omega))⟩
        · rw [btUpto_succ n p hp, if_pos hL, Mx.btB, if_pos hG]; exact hI2
        · unfold OneS; rw [ho _ (by omega)]; exact hS
      · refine (bits1_not w.heap.size (w.heap.size + 1) n (upto n p) p w1 hp hG hS).mono ?_
        rintro e w2 ⟨rfl, rfl⟩
        exact ⟨rfl, by rw [btUpto_succ n p hp, if_pos hL, Mx.btB, if_neg hG]; exact hI, hS, hb⟩
    case y2 =>
      rintro p w1 hp hL ⟨hI, hS, hb⟩
      exact ⟨by rw [btUpto_succ n p hp, if_neg hL]; exact hI, hS, hb⟩
    rintro e w2 ⟨rfl, hI, _, hb⟩
    have hc := cell_of_one hI
    clear hI h1 h2 hb1
    go_wp2
    go_ret
    exact ⟨by rw [HF.out]; rfl, hb⟩
  · simp only [Bool.not_eq_true] at h
    have HF : Hid (bitsOf n = 0) := by simp [Hid, bitsOf, h]
    have hc := cell_of_one h1
    clear h1 h2
    go_enter Try.func12, Try.ntmps12
    go_wp2_with fail
    refine (each_no n _ _ hn h).mono ?_
    rintro e w2 ⟨rfl, rfl⟩
    go_wp2
    go_ret
    exact ⟨by rw [HF.out]; rfl, hb1⟩

theorem bit_test (b j : Nat) (hb : b < 2 ^ 40) : (bits .and .i64 ((b : Int) / 2 ^ j) 1 == 1) = b.testBit j := by
  have e1 : (b : Int) / 2 ^ j = ((b / 2 ^ j : Nat) : Int) := by
    rw [Int.natCast_ediv, Int.natCast_pow]; rfl
  have hle : b / 2 ^ j ≤ b := Nat.div_le_self _ _
  rw [e1, Nat.testBit_eq_decide_div_mod_eq]
  generalize b / 2 ^ j = q at *
  have e2 := bits_mask .i64 63 (by decide) wraps63 1 (by omega) (q : Int) (by omega) (by omega)
  rw [show (2 : Int) ^ 1 - 1 = 1 from rfl] at e2
  rw [e2, Bool.eq_iff_iff, beq_iff_eq, decide_eq_true_eq]
  omega

/-- The first p bytes mixed, the others in small letters. -/
def mhalf (b : Nat) (l : List UInt8) (p : Nat) : List UInt8 := Mx.mx b 0 (l.take p) ++ Nm.lowL (l.drop p)
theorem mhalf_length (b : Nat) (l : List UInt8) (p : Nat) : (mhalf b l p).length = l.length := by
  simp only [mhalf, List.length_append, Mx.mx_length, Nm.lowL_length, List.length_take, List.length_drop]; omega
theorem mhalf_zero (b : Nat) (l : List UInt8) : mhalf b l 0 = Nm.lowL l := by simp [mhalf, Mx.mx]
theorem mhalf_all (b : Nat) (l : List UInt8) : mhalf b l l.length = Mx.mx b 0 l := by simp [mhalf, Nm.lowL]
theorem mhalf_at (b : Nat) (l : List UInt8) (p : Nat) (h : p < l.length) : mhalf b l p = Mx.mx b 0 (l.take p) ++ Nm.lowB l[p] :: Nm.lowL (l.drop (p + 1)) := by
  unfold mhalf
  rw [List.drop_eq_getElem_cons h]
  rfl
theorem mhalf_next (b : Nat) (l : List UInt8) (p : Nat) (h : p < l.length) : mhalf b l (p + 1) = Mx.mx b 0 (l.take p) ++ (if Mx.isL l[p] = true then Mx.mxB b (Mx.cnt (l.take p)) l[p] else l[p]) :: Nm.lowL (l.drop (p + 1)) := by
  unfold mhalf
  rw [List.take_succ_eq_append_getElem h, Mx.mx_append, Nat.zero_add, List.append_assoc]
  congr 1
  simp only [Mx.mx]
  split <;> rfl
theorem mhalf_get (b : Nat) (l : List UInt8) (p : Nat) (h : p < l.length) : (mhalf b l p)[p]'(by rw [mhalf_length]; exact h) = Nm.lowB l[p] := by
  have hl : (Mx.mx b 0 (l.take p)).length = p := by rw [Mx.mx_length, List.length_take]; omega
  simp only [mhalf_at b l p h]
  rw [List.getElem_append_right (by omega)]
  simp only [hl, Nat.sub_self, List.getElem_cons_zero]
theorem mhalf_set (b : Nat) (l : List UInt8) (p : Nat) (h : p < l.length) (x : UInt8) (hx : x = if Mx.isL l[p] = true then Mx.mxB b (Mx.cnt (l.take p)) l[p] else l[p]) : (mhalf b l p).set p x = mhalf b l (p + 1) := by
  have hl : (Mx.mx b 0 (l.take p)).length = p := by rw [Mx.mx_length, List.length_take]; omega
  rw [mhalf_at b l p h, mhalf_next b l p h, List.set_append_right _ _ (by omega), hl, Nat.sub_self, List.set_cons_zero, hx]
theorem mhalf_stay (b : Nat) (l : List UInt8) (p : Nat) (h : p < l.length) (hx : Nm.lowB l[p] = if Mx.isL l[p] = true then Mx.mxB b (Mx.cnt (l.take p)) l[p] else l[p]) : mhalf b l (p + 1) = mhalf b l p := by
  rw [mhalf_at b l p h, mhalf_next b l p h, hx]

/-- A block of one slice. -/
def OneB (w : World) (B : Nat) (v : Value) : Prop := w.heap[B]? = some (.cells #[v] 34 (0, 0))

theorem mix1_set (B B2 G cap : Nat) (k p b : Nat) (l : List UInt8) (w : World) (hb : b < 2 ^ 40) (hB : OneI w B b) (hv : OneB w B2 (.slice (some ⟨G, 0, none⟩) l.length cap)) (hrow : Row w G l) (hp : p < l.length) (hc : 97 ≤ l[p].toNat) (hbit : b.testBit (k % 40) = true) :
    Calls Try.prog 23 #[.int .i64 k, .int .i64 p, .pointer (some ⟨B, 0, none⟩), .pointer (some ⟨B2, 0, none⟩)] w fun e w' => e = .returned (.tuple #[]) ∧ w' = w.setCell ⟨G, p, none⟩ (bv (l[p] - 32)) := by
  have hcs := cell_of_one hB
  have hcv := cell_of_one hv
  have hcell : w.cell? ⟨G, p, none⟩ = some (.int .u8 (l[p].toNat : Int)) := hrow.cell p hp
  have hfree := hrow.free p hp
  have ht := bit_test b (k % 40) hb
  rw [hbit] at ht
  have hlt := UInt8.toNat_lt l[p]
  have HR : Hid (bv (l[p] - 32) = .int .u8 ((l[p].toNat : Int) - 32)) := by
    unfold Hid bv
    rw [Mx.sub32 (by omega)]
    congr 1
    omega
  generalize l[p] = c at *
  clear hB hv hrow hbit
  go_enter Try.func23, Try.ntmps23
  go_wp2
  go_end0
  exact ⟨rfl, by rw [HR.out]⟩
theorem mix1_not (B B2 : Nat) (k p b : Nat) (w : World) (hb : b < 2 ^ 40) (hB : OneI w B b) (hbit : b.testBit (k % 40) = false) :
    Calls Try.prog 23 #[.int .i64 k, .int .i64 p, .pointer (some ⟨B, 0, none⟩), .pointer (some ⟨B2, 0, none⟩)] w fun e w' => e = .returned (.tuple #[]) ∧ w' = w := by
  have hcs := cell_of_one hB
  have ht := bit_test b (k % 40) hb
  rw [hbit] at ht
  clear hB hbit
  go_enter Try.func23, Try.ntmps23
  go_wp2
  go_end0
  exact ⟨rfl, rfl⟩

def mixOk (n : ByteArray) (b : Int) : Prop := Nm.okL (bl n) = true ∧ 0 ≤ b ∧ b < 1099511627776
instance (n : ByteArray) (b : Int) : Decidable (mixOk n b) := by unfold mixOk; infer_instance
def mixS (n : ByteArray) (b : Int) : ByteArray := if mixOk n b then ⟨(Mx.mx b.toNat 0 (bl n)).toArray⟩ else ⟨#[]⟩

set_option maxHeartbeats 400000 in
theorem mix_yes (n : ByteArray) (i : Int) (b : Nat) (w : World) (hn : n.size ≤ maxLen) (h : Nm.okL (bl n) = true) (hb0 : 0 ≤ i) (hb1 : i < 1099511627776) (hb2 : Hid (i = b)) :
    Calls Try.prog 10 #[.string n, .int .i64 i] w fun e w' => e = .returned (.string ⟨(Mx.mx b 0 (bl n)).toArray⟩) ∧ Keeps w w' := by
  have hmf : ∀ (fn : Fn) (first cap : Array Value) (w : World), (Instr.makeFunc fn first cap).run Try.prog w = .ok (.func fn first cap) w := fun _ _ _ _ => rfl
  have hcv2 := fun w n => run_bytes_of_string (P := Try.prog) w 9 34 5 n Try.underlying9 Try.underlying34 Try.underlying5
  go_enter Try.func10, Try.ntmps10
  go_wp2_with fail
  refine (low_any _ _ hn).mono ?_
  rintro e w1 ⟨rfl, k1⟩
  have hsz := k1.size
  rw [show (w.alloc (.cells #[.int .i64 i] 3)).heap.size = w.heap.size + 1 by simp] at hsz
  have hI0 : OneI w1 w.heap.size i := (k1.block w.heap.size (by simp)).trans (one_new w i)
  have hb0w : Below w.heap.size w w1 := ((Below.refl _ _).alloc (Nat.le_refl _) _).trans (k1.mono (by simp))
  have hlw := lowS_yes n h
  have hls : (lowS n).size = n.size := by rw [← bl_length, hlw, Nm.lowL_length, bl_length]
  have HL := hide hlw
  have HLS := hide hls
  clear k1 hlw hls
  go_wp2_with fail
  clear hcv2
  generalize hX : lowS n = X at *
  generalize hcap : grownCap w1 X.size 0 5 = cap at *
  have hr1 := Row.made w1 X cap
  rw [show X.data.toList = mhalf b (bl n) 0 by rw [mhalf_zero, ← HL.out]; rfl] at hr1
  generalize hwa : (w1.alloc (.cells (bytesRow X cap) 5 ((bytesRow X cap).size, (bytesRow X cap).size + 1))) = wa at *
  have hsa : wa.heap.size = w1.heap.size + 1 := by rw [← hwa]; simp
  have hba : Below w1.heap.size w1 wa := by rw [← hwa]; exact (Below.refl _ _).alloc (Nat.le_refl _) _
  have hv1 : OneB (wa.alloc (.cells #[.slice (some ⟨w1.heap.size, 0, none⟩) X.size cap] 34)).drew (w1.heap.size + 1) (.slice (some ⟨w1.heap.size, 0, none⟩) (bl n).length cap) := by
    have := heap_alloc_new wa (.cells #[.slice (some ⟨w1.heap.size, 0, none⟩) X.size cap] 34)
    rw [hsa] at this
    rw [bl_length, ← HLS.out]
    exact this
  have hbb : Below (w1.heap.size + 1) wa (wa.alloc (.cells #[.slice (some ⟨w1.heap.size, 0, none⟩) X.size cap] 34)).drew := ((Below.refl _ _).alloc (by omega) _).drew
  have hr2 : Row (wa.alloc (.cells #[.slice (some ⟨w1.heap.size, 0, none⟩) X.size cap] 34)).drew w1.heap.size (mhalf b (bl n) 0) := Row.below hr1 (by omega) (by rw [hsa]; exact hbb)
  have hbc : Below w1.heap.size w1 (wa.alloc (.cells #[.slice (some ⟨w1.heap.size, 0, none⟩) X.size cap] 34)).drew := hba.trans (hbb.mono (by omega))
  have hI2 : OneI (wa.alloc (.cells #[.slice (some ⟨w1.heap.size, 0, none⟩) X.size cap] 34)).drew w.heap.size i := (hbc.block w.heap.size (by omega)).trans hI0
  have hbd : Below w.heap.size w (wa.alloc (.cells #[.slice (some ⟨w1.heap.size, 0, none⟩) X.size cap] 34)).drew := hb0w.trans (hbc.mono (by omega))
  have hb : b < 2 ^ 40 := by have := hb2.out; omega
  rw [hb2.out] at hI2
  refine (each_any n _ _ (fun p w2 => OneI w2 w.heap.size b ∧ OneB w2 (w1.heap.size + 1) (.slice (some ⟨w1.heap.size, 0, none⟩) (bl n).length cap) ∧ Row w2 w1.heap.size (mhalf b (bl n) p) ∧ Below w.heap.size w w2) _ hn h (enters Try.func23 (by kernel_rfl) rfl) ?y1 ?y2 ⟨hI2, hv1, hr2, hbd⟩).mono ?_
  case y1 =>
    rintro p w2 hp hL ⟨hI, hV, hR, hB⟩
    have hp' : p < (bl n).length := by rw [bl_length]; exact hp
    have hp2 : p < (mhalf b (bl n) p).length := by rw [mhalf_length]; exact hp'
    have hg := mhalf_get b (bl n) p hp'
    have hL2 : Mx.isL (bl n)[p] = true := hL
    have hlo := Mx.low_of_L hL
    by_cases hbit : b.testBit (upto n p % 40) = true
    · refine (mix1_set w.heap.size (w1.heap.size + 1) w1.heap.size cap (upto n p) p b (mhalf b (bl n) p) w2 hb hI (by rw [mhalf_length]; exact hV) hR hp2 (by rw [hg]; exact hlo.1) hbit).mono ?_
      rintro e w3 ⟨rfl, rfl⟩
      refine ⟨rfl, ?_, ?_, ?_, hB.setCell (by simp; omega) _⟩
      · exact (Below.heap_setCell _ _ _ _ (by simp; omega)).trans hI
      · exact (Below.heap_setCell _ _ _ _ (by simp)).trans hV
      · have := hR.set p ((mhalf b (bl n) p)[p] - 32) hp2
        rw [mhalf_set b (bl n) p hp' _ (by rw [if_pos hL2, hg, Mx.mxB]; exact (if_pos hbit).symm)] at this
        exact this
    · simp only [Bool.not_eq_true] at hbit
      refine (mix1_not w.heap.size (w1.heap.size + 1) (upto n p) p b w2 hb hI hbit).mono ?_
      rintro e w3 ⟨rfl, rfl⟩
      refine ⟨rfl, hI, hV, ?_, hB⟩
      rw [mhalf_stay b (bl n) p hp' (by rw [if_pos hL2, Mx.mxB, if_neg (by rw [show Mx.cnt ((bl n).take p) = upto n p from rfl, hbit]; decide)])]
      exact hR
  case y2 =>
    rintro p w2 hp hL ⟨hI, hV, hR, hB⟩
    have hp' : p < (bl n).length := by rw [bl_length]; exact hp
    refine ⟨hI, hV, ?_, hB⟩
    rw [mhalf_stay b (bl n) p hp' (by have hL2 : ¬ Mx.isL (bl n)[p] = true := hL; rw [if_neg hL2]; exact Mx.low_of_not hL2)]
    exact hR
  rintro e w2 ⟨rfl, hI, hV, hR, hB⟩
  have hcv := cell_of_one hV
  have HF : Hid (mhalf b (bl n) n.size = Mx.mx b 0 (bl n)) := by unfold Hid; rw [← bl_length, mhalf_all]
  have hcc := hR.conv (bl n).length cap (by rw [mhalf_length])
  clear hb hI hV hR hI2 hv1 hr2 hbd hbc hbb hba hr1 hI0
  go_wp2
  go_ret
  exact ⟨by rw [← HF.out]; rfl, hB⟩

theorem mix_out (n : ByteArray) (i : Int) (w : World) (h : i < 0 ∨ 1099511627776 ≤ i) :
    Calls Try.prog 10 #[.string n, .int .i64 i] w fun e w' => e = .returned (.string ⟨#[]⟩) ∧ Keeps w w' := by
  have hb := (Below.refl w.heap.size w).alloc (Nat.le_refl _) (.cells #[.int .i64 i] 3)
  by_cases h0 : i < 0
  · clear h
    go_enter Try.func10, Try.ntmps10
    go_wp2
    go_ret
    exact ⟨rfl, hb⟩
  · have h1 : 1099511627776 ≤ i := h.resolve_left h0
    clear h
    go_enter Try.func10, Try.ntmps10
    go_wp2
    go_ret
    exact ⟨rfl, hb⟩

theorem mix_no (n : ByteArray) (i : Int) (w : World) (hn : n.size ≤ maxLen) (h : Nm.okL (bl n) = false) (hb0 : 0 ≤ i) (hb1 : i < 1099511627776) :
    Calls Try.prog 10 #[.string n, .int .i64 i] w fun e w' => e = .returned (.string ⟨#[]⟩) ∧ Keeps w w' := by
  have hmf : ∀ (fn : Fn) (first cap : Array Value) (w : World), (Instr.makeFunc fn first cap).run Try.prog w = .ok (.func fn first cap) w := fun _ _ _ _ => rfl
  have hcv2 := fun w n => run_bytes_of_string (P := Try.prog) w 9 34 5 n Try.underlying9 Try.underlying34 Try.underlying5
  have e1 : (lowS n).size = 0 := by rw [lowS, if_neg (by rw [h]; decide)]; rfl
  have HE := hide e1
  clear e1
  go_enter Try.func10, Try.ntmps10
  go_wp2_with fail
  refine (low_any _ _ hn).mono ?_
  rintro e w1 ⟨rfl, k1⟩
  have hsz := k1.size
  rw [show (w.alloc (.cells #[.int .i64 i] 3)).heap.size = w.heap.size + 1 by simp] at hsz
  have hb0w : Below w.heap.size w w1 := ((Below.refl _ _).alloc (Nat.le_refl _) _).trans (k1.mono (by simp))
  clear k1
  go_wp2_with fail
  clear hcv2
  generalize hX : lowS n = X at *
  generalize hcap : grownCap w1 X.size 0 5 = cap at *
  generalize hwa : (w1.alloc (.cells (bytesRow X cap) 5 ((bytesRow X cap).size, (bytesRow X cap).size + 1))) = wa at *
  have hsa : wa.heap.size = w1.heap.size + 1 := by rw [← hwa]; simp
  have hba : Below w1.heap.size w1 wa := by rw [← hwa]; exact (Below.refl _ _).alloc (Nat.le_refl _) _
  have hv1 : OneB (wa.alloc (.cells #[.slice (some ⟨w1.heap.size, 0, none⟩) X.size cap] 34)).drew (w1.heap.size + 1) (.slice (some ⟨w1.heap.size, 0, none⟩) X.size cap) := by
    have := heap_alloc_new wa (.cells #[.slice (some ⟨w1.heap.size, 0, none⟩) X.size cap] 34)
    rw [hsa] at this
    exact this
  have hbb : Below (w1.heap.size + 1) wa (wa.alloc (.cells #[.slice (some ⟨w1.heap.size, 0, none⟩) X.size cap] 34)).drew := ((Below.refl _ _).alloc (by omega) _).drew
  have hbd : Below w.heap.size w (wa.alloc (.cells #[.slice (some ⟨w1.heap.size, 0, none⟩) X.size cap] 34)).drew := (hb0w.trans (hba.mono (by omega))).trans (hbb.mono (by omega))
  have hr : Row (wa.alloc (.cells #[.slice (some ⟨w1.heap.size, 0, none⟩) X.size cap] 34)).drew w1.heap.size [] := fun j hj => absurd hj (by simp)
  have hcv := cell_of_one hv1
  have hcc := hr.conv X.size cap (by rw [HE.out]; rfl)
  refine (each_no n _ _ hn h).mono ?_
  rintro e w2 ⟨rfl, rfl⟩
  clear hv1 hr hbb hba hwa hsa
  go_wp2
  go_ret
  exact ⟨rfl, hbd⟩

theorem mix_any (n : ByteArray) (i : Int) (w : World) (hn : n.size ≤ maxLen) :
    Calls Try.prog 10 #[.string n, .int .i64 i] w fun e w' => e = .returned (.string (mixS n i)) ∧ Keeps w w' := by
  by_cases h0 : i < 0 ∨ 1099511627776 ≤ i
  · rw [mixS, if_neg (by unfold mixOk; omega)]
    exact mix_out n i w h0
  · by_cases h : Nm.okL (bl n) = true
    · rw [mixS, if_pos ⟨h, by omega, by omega⟩]
      exact mix_yes n i i.toNat w hn h (by omega) (by omega) (hide (by omega))
    · rw [mixS, if_neg (fun x => h x.1)]
      exact mix_no n i w hn (by simpa using h) (by omega) (by omega)

theorem echoes_any (a b : ByteArray) (w : World) (ha : a.size ≤ maxLen) :
    Calls Try.prog 14 #[.string a, .string b] w fun e w' => e = .returned (.bool (Nm.okL (bl a) && (bl a == bl b))) ∧ w' = w := by
  cases h : Nm.okL (bl a)
  · go_enter Try.func14, Try.ntmps14
    go_wp2_with (go_at_call 27; refine (check_any _ _ ha).mono ?_; rintro e w' ⟨rfl, rfl⟩)
    go_ret
    exact ⟨rfl, rfl⟩
  · have e1 : (a.toList == b.toList) = (bl a == bl b) := by rw [toList_bl, toList_bl]
    go_enter Try.func14, Try.ntmps14
    go_wp2_with (go_at_call 27; refine (check_any _ _ ha).mono ?_; rintro e w' ⟨rfl, rfl⟩)
    go_ret
    exact ⟨ret_bool (by simp), rfl⟩
end Go.Proofs.Ytncgflnjphhhlaa
