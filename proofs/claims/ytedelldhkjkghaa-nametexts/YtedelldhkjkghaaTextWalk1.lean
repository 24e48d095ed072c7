/- What name.digit, plain, appendEscaped answer, for every input. -/
import Derived.Test.YtedelldhkjkghaaNameWalk3
import Derived.Test.YtedelldhkjkghaaTextMath
namespace Go.Proofs.Ytedelldhkjkghaa
open Go.RowKit

theorem digit_any (r : Int) (w : World) :
    Calls Try.prog 37 #[.int .i32 r] w fun e w' => e = .returned (.bool (Nm.digI r)) ∧ w' = w := by
  by_cases h1 : 48 ≤ r
  · by_cases h2 : r ≤ 57
    · have HF : Hid (Nm.digI r = true) := by simp [Nm.digI, Hid]; omega
      go_enter Try.func37, Try.ntmps37
      go_wp2
      go_ret
      exact ⟨ret_bool HF.out.symm, rfl⟩
    · have HF : Hid (Nm.digI r = false) := by simp [Nm.digI, Hid]; omega
      go_enter Try.func37, Try.ntmps37
      go_wp2
      go_ret
      exact ⟨ret_bool HF.out.symm, rfl⟩
  · have HF : Hid (Nm.digI r = false) := by simp [Nm.digI, Hid]; omega
    go_enter Try.func37, Try.ntmps37
    go_wp2
    go_ret
    exact ⟨ret_bool HF.out.symm, rfl⟩

theorem plain_any (r : Int) (w : World) :
    Calls Try.prog 38 #[.int .i32 r] w fun e w' => e = .returned (.bool (Nm.plainI r)) ∧ w' = w := by
  by_cases a1 : 97 ≤ r
  · by_cases a2 : r ≤ 122
    · skip
      have HF : Hid (Nm.plainI r = true) := by simp [Nm.plainI, Hid]; omega
      go_enter Try.func38, Try.ntmps38
      go_wp2_with (go_at_call 37; refine (digit_any _ _).mono ?_; rintro e w' ⟨rfl, rfl⟩)
      go_ret
      exact ⟨ret_bool HF.out.symm, rfl⟩
    · have a3 : 65 ≤ r := by omega
      have a4 : ¬ r ≤ 90 := by omega
      have HF : Hid (Nm.plainI r = false) := by simp [Nm.plainI, Hid]; omega
      have hd : Nm.digI r = false := by simp [Nm.digI]; omega
      have e45 : (r == 45) = false := by simp; omega
      have e95 : (r == 95) = false := by simp; omega
      go_enter Try.func38, Try.ntmps38
      go_wp2_with (go_at_call 37; refine (digit_any _ _).mono ?_; rintro e w' ⟨rfl, rfl⟩)
      go_ret
      exact ⟨ret_bool HF.out.symm, rfl⟩
  by_cases b1 : 65 ≤ r
  · by_cases b2 : r ≤ 90
    · skip
      have HF : Hid (Nm.plainI r = true) := by simp [Nm.plainI, Hid]; omega
      go_enter Try.func38, Try.ntmps38
      go_wp2_with (go_at_call 37; refine (digit_any _ _).mono ?_; rintro e w' ⟨rfl, rfl⟩)
      go_ret
      exact ⟨ret_bool HF.out.symm, rfl⟩
    · by_cases b3 : r = 95
      · subst b3
        have HF : Hid (Nm.plainI 95 = true) := by unfold Hid; decide
        have hd : Nm.digI 95 = false := by decide
        go_enter Try.func38, Try.ntmps38
        go_wp2_with (go_at_call 37; refine (digit_any _ _).mono ?_; rintro e w' ⟨rfl, rfl⟩)
        go_ret
        exact ⟨ret_bool HF.out.symm, rfl⟩
      · skip
        have HF : Hid (Nm.plainI r = false) := by simp [Nm.plainI, Hid]; omega
        have hd : Nm.digI r = false := by simp [Nm.digI]; omega
        have e45 : (r == 45) = false := by simp; omega
        have e95 : (r == 95) = false := by simpa using b3
        clear b3
        go_enter Try.func38, Try.ntmps38
        go_wp2_with (go_at_call 37; refine (digit_any _ _).mono ?_; rintro e w' ⟨rfl, rfl⟩)
        go_ret
        exact ⟨ret_bool HF.out.symm, rfl⟩
  by_cases c1 : Nm.digI r = true
  · have HF : Hid (Nm.plainI r = true) := by simp [Nm.digI] at c1; simp [Nm.plainI, Hid]; omega
    go_enter Try.func38, Try.ntmps38
    go_wp2_with (go_at_call 37; refine (digit_any _ _).mono ?_; rintro e w' ⟨rfl, rfl⟩)
    go_ret
    exact ⟨ret_bool HF.out.symm, rfl⟩
  · simp only [Bool.not_eq_true] at c1
    by_cases b3 : r = 45
    · subst b3
      have HF : Hid (Nm.plainI 45 = true) := by unfold Hid; decide
      go_enter Try.func38, Try.ntmps38
      go_wp2_with (go_at_call 37; refine (digit_any _ _).mono ?_; rintro e w' ⟨rfl, rfl⟩)
      go_ret
      exact ⟨ret_bool HF.out.symm, rfl⟩
    · have HF : Hid (Nm.plainI r = false) := by simp [Nm.digI] at c1; simp [Nm.plainI, Hid]; omega
      have e45 : (r == 45) = false := by simpa using b3
      have e95 : (r == 95) = false := by simp; omega
      clear b3
      go_enter Try.func38, Try.ntmps38
      go_wp2_with (go_at_call 37; refine (digit_any _ _).mono ?_; rintro e w' ⟨rfl, rfl⟩)
      go_ret
      exact ⟨ret_bool HF.out.symm, rfl⟩

theorem esc4_cells (w : World) (c : UInt8) (t : TypeId) (v1 v2 v3 : Int) (h1 : v1 = 48 + (c.toNat : Int) / 100) (h2 : v2 = 48 + (c.toNat : Int) / 10 % 10) (h3 : v3 = 48 + (c.toNat : Int) % 10) :
    ∀ j (hj : j < (Nm.esc4 c).length), (w.alloc (.cells #[.int .u8 92, .int .u8 v1, .int .u8 v2, .int .u8 v3] t)).cell? ((⟨w.heap.size, 0, none⟩ : Addr).add j) = some (bv (Nm.esc4 c)[j]) := by
  subst h1 h2 h3
  have hc := UInt8.toNat_lt c
  obtain ⟨e1, e2, e3⟩ := Nm.esc4_parts c
  intro j hj
  have hj4 : j < 4 := hj
  rw [show ((⟨w.heap.size, 0, none⟩ : Addr).add j) = ⟨w.heap.size, j, none⟩ by simp [Addr.add]; omega]
  refine (World.cell?_alloc_mark w _ t (0, 0) j).trans ?_
  rcases (show j = 0 ∨ j = 1 ∨ j = 2 ∨ j = 3 by omega) with rfl | rfl | rfl | rfl
  · rfl
  · show some (Value.int .u8 _) = some (bv (UInt8.ofNat (48 + c.toNat / 100)))
    rw [bv, e1]; congr 2
  · show some (Value.int .u8 _) = some (bv (UInt8.ofNat (48 + c.toNat / 10 % 10)))
    rw [bv, e2]; congr 2
  · show some (Value.int .u8 _) = some (bv (UInt8.ofNat (48 + c.toNat % 10)))
    rw [bv, e3]; congr 2

theorem esc4L_take (t : ByteArray) (j : Nat) (h : j < t.size) : Nm.esc4L ((bl t).take (j + 1)) = Nm.esc4L ((bl t).take j) ++ Nm.esc4 t[j] := by
  rw [List.take_succ_eq_append_getElem (by rw [bl_length]; exact h), bl_get t j h]
  simp only [Nm.esc4L, List.flatMap_append, List.flatMap_cons, List.flatMap_nil, List.append_nil]
theorem esc4L_length (l : List UInt8) : (Nm.esc4L l).length = 4 * l.length := by
  induction l with
  | nil => rfl
  | cons c l ih => simp only [Nm.esc4L, List.flatMap_cons, List.length_append, List.length_cons] at ih ⊢; rw [ih]; simp [Nm.esc4]; omega

/-- What comes of a call that appends to a row of bytes. -/
def AppEnd (w : World) (B : Nat) (l : List UInt8) (e : Ending) (w' : World) : Prop := ∃ v', e = .returned v' ∧ Owns w' B v' l ∧ Below B w w' ∧ Oth w w'
theorem AppEnd.mk {w : World} {B : Nat} {l : List UInt8} {v' : Value} {w' : World} (h1 : Owns w' B v' l) (h2 : Below B w w') (h3 : Oth w w') : AppEnd w B l (.returned v') w' := ⟨v', rfl, h1, h2, h3⟩

set_option maxHeartbeats 400000 in
theorem appendEscaped_any (v : Value) (l : List UInt8) (t : ByteArray) (B : Nat) (w : World) (hown : Owns w B v l) (hB : B ≤ w.heap.size) (hl : l.length ≤ 1099511627776) (ht : t.size ≤ 1099511627776) :
    Calls Try.prog 39 #[v, .string t] w fun e w' => AppEnd w B (l ++ Nm.esc4L (bl t)) e w' := by
  have HB := hide hB
  go_enter Try.func39, Try.ntmps39
  go_wp2
  go_loopw [0, 9] (fun b i wr => ∃ j : Nat, j ≤ t.size ∧ i = .int .i64 j ∧ Owns wr B b (l ++ Nm.esc4L ((bl t).take j)) ∧ Below B w wr ∧ Oth w wr) (fun _ i _ => t.size - (intOf i).toNat)
  case atStart => exact ⟨0, Nat.zero_le _, rfl, by simpa [Nm.esc4L] using hown, Below.refl _ _, Oth.refl _⟩
  case round =>
    obtain ⟨j, hj, rfl, hown', hbel, hoth⟩ := hrel
    have hsb := hbel.size
    have hlen := esc4L_length ((bl t).take j)
    have hlt' : ((bl t).take j).length ≤ j := List.length_take_le _ _
    by_cases hlt : j < t.size
    · have hc := UInt8.toNat_lt t[j]
      have HT := hide (esc4L_take t j hlt)
      clear hown
      go_wp2_with (at_builtin; refine wpList_apps _ rfl _ _ rfl B _ _ rfl (hown'.alloc _) _ _ 4 (Nm.esc4 t[j]) rfl rfl ?c1 ?c2 ?c3 ?_)
      case c1 => exact esc4_cells _ _ _ _ _ _ rfl rfl rfl
      case c2 => rw [List.length_append]; simp [Nm.esc4]; omega
      case c3 => simp; omega
      intro v2 w2 hown2 hb2 ho2
      have hbel2 := (hbel.alloc (by omega) _).trans hb2
      have hoth2 := (hoth.alloc _).trans ho2
      clear hb2 hown' hbel ho2 hoth
      go_wp2
      go_roundw
      case rel => exact ⟨j + 1, by omega, by go_num, by rw [HT.out]; exact hown2, hbel2, hoth2⟩
      case measure => simp [intOf]; omega
    · have HT : Hid ((bl t).take j = bl t) := List.take_of_length_le (by rw [bl_length]; omega)
      go_wp2
      go_ret
      exact AppEnd.mk (by rw [HT.out] at hown'; exact hown') hbel hoth
end Go.Proofs.Ytedelldhkjkghaa
