/- DataPointers answers true, for every input: the walk. -/
import Derived.Test.YtfhdibkacclkaaaLDataExpands
namespace Go.Proofs.Ytfhdibkacclkaaa
open Go.RowKit

/-- A name, and behind it data whose names are pointers to it. -/
theorem ptr_read {base : List UInt8} {p : Nat} {x : List UInt8} (l : List UInt8) (hb : Nm.okL base = true) (hp : base.length ≤ p) (hl : l.take base.length = base) (hx : l.drop p = 192 :: 0 :: x) : Cm.readL l p = ⟨base, p + 2, 0⟩ := by
  have h1 : l.drop 0 = base ++ l.drop base.length := by rw [List.drop_zero]; conv => lhs; rw [← List.take_append_drop base.length l, hl]
  have hpos := (Dt.ok_len hb).1
  have c0 : l[p]? = some 192 := by
    have : (l.drop p)[0]? = some 192 := by rw [hx]; rfl
    rwa [List.getElem?_drop, Nat.add_zero] at this
  have c1 : l[p + 1]? = some 0 := by
    have : (l.drop p)[1]? = some 0 := by rw [hx]; rfl
    rwa [List.getElem?_drop] at this
  rw [Cm.readL, if_pos (by omega), Int.toNat_natCast, Cm.rdm_ptr c0 (by decide) c1 (by simp; omega)]
  have := Cm.rdm_name l 0 (p + 2) 0 [] base (l.drop base.length) hb h1 (by simp; exact (Dt.ok_len hb).2)
  have e : (((192 : UInt8).toNat - 192) * 256 + (0 : UInt8).toNat) = 0 := by decide
  rw [e, if_pos rfl, this, if_neg (by omega)]
  rfl
theorem ptr_one {k : Int} {s : Dt.Sh} (hs : Dt.shp k = some s) (hn : s.n = 1) (hb : s.b = 0) (base A : List UInt8) (ho : Nm.okL base = true) (hA : A.length = s.a) :
    Dt.splitL (base ++ (A ++ [192, 0])) base.length (s.a + 2) k = some ⟨A, [base], []⟩ := by
  have hsm := (Dt.shp_small hs).1
  have hl : (base ++ (A ++ [192, 0])).length = base.length + s.a + 2 := by simp; omega
  have hd : (base ++ (A ++ [192, 0])).drop (base.length + s.a) = 192 :: 0 :: [] := by
    rw [← List.drop_drop, List.drop_left, ← hA, List.drop_left]
  have hr := ptr_read (p := base.length + s.a) (base ++ (A ++ [192, 0])) ho (by omega) (List.take_left) hd
  rw [Dt.splitL, if_neg (by omega), hs]
  simp only [Dt.takeL]
  rw [if_pos (by omega), hn]
  simp only [Dt.rds, hr, if_true, Option.map_some, hb, Nat.add_assoc]
  have e1 : Dt.part (base ++ (A ++ [192, 0])) base.length s.a = A := by
    rw [Dt.part, List.drop_left, ← hA, List.take_left]
  rw [e1]
  simp [Dt.part]
theorem ptr_two (base T : List UInt8) (ho : Nm.okL base = true) (hT : T.length = 20) :
    Dt.splitL (base ++ ([192, 0] ++ ([192, 0] ++ T))) base.length 24 6 = some ⟨[], [base, base], T⟩ := by
  have hl : (base ++ ([192, 0] ++ ([192, 0] ++ T))).length = base.length + 24 := by simp; omega
  have hd0 : (base ++ ([192, 0] ++ ([192, 0] ++ T))).drop base.length = 192 :: 0 :: ([192, 0] ++ T) := by rw [List.drop_left]; rfl
  have hd1 : (base ++ ([192, 0] ++ ([192, 0] ++ T))).drop (base.length + 2) = 192 :: 0 :: T := by rw [← List.drop_drop, List.drop_left]; rfl
  have hd2 : (base ++ ([192, 0] ++ ([192, 0] ++ T))).drop (base.length + 4) = T := by rw [← List.drop_drop, List.drop_left]; rfl
  have hr0 := ptr_read (p := base.length) _ ho (by omega) (List.take_left) hd0
  have hr1 := ptr_read (p := base.length + 2) _ ho (by omega) (List.take_left) hd1
  have hr1' : Cm.readL (base ++ ([192, 0] ++ ([192, 0] ++ T))) ((base.length + 2 : Nat) : Int) = ⟨base, base.length + 4, 0⟩ := by rw [hr1]
  generalize base ++ ([192, 0] ++ ([192, 0] ++ T)) = l at *
  rw [Dt.splitL, if_neg (by omega), show Dt.shp 6 = some ⟨0, 2, 20⟩ from rfl]
  simp only [Dt.takeL, Nat.add_zero]
  rw [if_pos (by omega)]
  simp only [Dt.rds, hr0, hr1', if_true, Option.map_some]
  simp only [Dt.part, hd2, List.take_zero]
  rw [← hT, List.take_length]

/-- What Expand and Check answer of such data. -/
theorem ptr_facts {k : Int} {m base D X : ByteArray} {x : Dt.Pt} (hm : m = base ++ D) (h : Dt.splitL (bl base ++ bl D) (bl base).length (bl D).length k = some x) (hX : bl X = x.join) :
    erS (Dt.expL (bl m) base.size D.size k) = X ∧ (Dt.expL (bl m) base.size D.size k).e = 0 ∧ Dt.checkB k (bl X) = true := by
  subst hm
  rw [bl_length, bl_length, ← bl_append] at h
  have hs : base.size + D.size ≤ (base ++ D).size := by rw [ByteArray.size_append]; omega
  have e := exp_yes hs h
  rw [e]
  refine ⟨bl_inj (by rw [hX, erS, bl_mk]), rfl, ?_⟩
  rw [hX, Dt.checkB, Dt.split_whole (by rw [bl_length]; exact hs) h]
  rfl

set_option maxHeartbeats 4000000 in
theorem DataPointers_walk (base : ByteArray) (k : Int) (w : World) (hm : base.size ≤ maxLen) (_ : -9223372036854775808 ≤ k ∧ k ≤ 9223372036854775807) :
    Calls Try.prog 6 #[.string base, .int .i64 k] w fun e w' => e = .returned (.bool true) ∧ Keeps w w' := by
  have hm' := hm
  unfold maxLen at hm'
  have K := Keeps.refl w
  by_cases hl : 300 < (base.size : Int)
  · go_enter Try.func6, Try.ntmps6
    go_wp2_with (go_at_call 8; refine (live5_any _).mono ?_; rintro e w3 ⟨rfl, k3⟩)
    go_ret
    exact ⟨rfl, k3⟩
  cases ho : Nm.okL (bl base)
  · go_enter Try.func6, Try.ntmps6
    go_wp2_with fail
    refine (refcheck_any _ _ hm).mono ?_
    rintro e wk ⟨rfl, k1⟩
    replace K := K.trans k1
    clear k1
    rw [ho]
    go_wp2_with fail
    refine (live5_any _).mono ?_
    rintro e wk ⟨rfl, k1⟩
    replace K := K.trans k1
    clear k1
    go_wp2
    go_ret
    exact ⟨rfl, K⟩
  by_cases hk : k = 2 ∨ k = 5 ∨ k = 12
  · have hs : Dt.shp k = some ⟨0, 1, 0⟩ := by rcases hk with rfl | rfl | rfl <;> rfl
    have hc : Dt.checkB k (bl ⟨#[192, 0]⟩) = false := by rcases hk with rfl | rfl | rfl <;> decide +kernel
    obtain ⟨f1, f2, f3⟩ := ptr_facts (k := k) (m := base ++ ⟨#[192, 0]⟩) (base := base) (D := ⟨#[192, 0]⟩) (X := base) rfl (ptr_one hs rfl rfl (bl base) [] ho rfl) (by simp [Dt.Pt.join])
    have f4 : (⟨#[192, 0]⟩ : ByteArray).size = 2 := by decide
    rw [f4, show ((2 : Nat) : Int) = 2 from rfl] at f1 f2
    have g1 : (⟨#[]⟩ : ByteArray) ++ ⟨#[192, 0]⟩ = ⟨#[192, 0]⟩ := by decide
    have g2 : (⟨#[192, 0]⟩ : ByteArray) ++ ⟨#[]⟩ = ⟨#[192, 0]⟩ := by decide
    have g3 : (⟨#[]⟩ : ByteArray) ++ base = base := bl_inj (by rw [bl_append]; rfl)
    have ms : (base ++ ⟨#[192, 0]⟩).size ≤ maxLen := by rw [ByteArray.size_append, f4]; unfold maxLen; omega
    have md : (⟨#[192, 0]⟩ : ByteArray).size ≤ maxLen := by rw [f4]; decide
    have mx := hm
    rcases hk with rfl | rfl | rfl
    all_goals
      go_enter Try.func6, Try.ntmps6
      go_wp2_with fail
      refine (refcheck_any _ _ hm).mono ?_
      rintro e wk ⟨rfl, k1⟩
      replace K := K.trans k1
      clear k1
      rw [ho]
      go_wp2_with fail
      refine (expand_any _ _ _ _ _ ms (by omega)).mono ?_
      rintro e wk ⟨rfl, k1⟩
      replace K := K.trans k1
      clear k1
      rw [f1, f2]
      go_wp2_with fail
      refine (dcheck_any _ _ _ mx).mono ?_
      rintro e wk ⟨rfl, k1⟩
      replace K := K.trans k1
      clear k1
      rw [f3]
      go_wp2_with fail
      refine (dcheck_any _ _ _ md).mono ?_
      rintro e wk ⟨rfl, k1⟩
      replace K := K.trans k1
      clear k1
      rw [hc]
      go_wp2_with fail
      refine (live5_any _).mono ?_
      rintro e wk ⟨rfl, k1⟩
      replace K := K.trans k1
      clear k1
      go_wp2
      go_ret
      exact ⟨rfl, K⟩
  by_cases hk15 : k = 15
  · subst hk15
    have hs : Dt.shp 15 = some ⟨2, 1, 0⟩ := rfl
    have hc : Dt.checkB 15 (bl ⟨#[0, 10, 192, 0]⟩) = false := by decide +kernel
    obtain ⟨f1, f2, f3⟩ := ptr_facts (k := 15) (m := base ++ ⟨#[0, 10, 192, 0]⟩) (base := base) (D := ⟨#[0, 10, 192, 0]⟩) (X := ⟨#[0, 10]⟩ ++ base) rfl (ptr_one hs rfl rfl (bl base) (bl ⟨#[0, 10]⟩) ho rfl) (by rw [bl_append]; simp [Dt.Pt.join])
    have f4 : (⟨#[0, 10, 192, 0]⟩ : ByteArray).size = 4 := by decide
    have f5 : (⟨#[0, 10]⟩ : ByteArray).size = 2 := by decide
    rw [f4, show ((4 : Nat) : Int) = 4 from rfl] at f1 f2
    have g1 : (⟨#[0, 10]⟩ : ByteArray) ++ ⟨#[192, 0]⟩ = ⟨#[0, 10, 192, 0]⟩ := by decide
    have g2 : (⟨#[0, 10, 192, 0]⟩ : ByteArray) ++ ⟨#[]⟩ = ⟨#[0, 10, 192, 0]⟩ := by decide
    have ms : (base ++ ⟨#[0, 10, 192, 0]⟩).size ≤ maxLen := by rw [ByteArray.size_append, f4]; unfold maxLen; omega
    have md : (⟨#[0, 10, 192, 0]⟩ : ByteArray).size ≤ maxLen := by rw [f4]; decide
    have mx : (⟨#[0, 10]⟩ ++ base).size ≤ maxLen := by rw [ByteArray.size_append, f5]; unfold maxLen; omega
    go_enter Try.func6, Try.ntmps6
    go_wp2_with fail
    refine (refcheck_any _ _ hm).mono ?_
    rintro e wk ⟨rfl, k1⟩
    replace K := K.trans k1
    clear k1
    rw [ho]
    go_wp2_with fail
    refine (expand_any _ _ _ _ _ ms (by omega)).mono ?_
    rintro e wk ⟨rfl, k1⟩
    replace K := K.trans k1
    clear k1
    rw [f1, f2]
    go_wp2_with fail
    refine (dcheck_any _ _ _ mx).mono ?_
    rintro e wk ⟨rfl, k1⟩
    replace K := K.trans k1
    clear k1
    rw [f3]
    go_wp2_with fail
    refine (dcheck_any _ _ _ md).mono ?_
    rintro e wk ⟨rfl, k1⟩
    replace K := K.trans k1
    clear k1
    rw [hc]
    go_wp2_with fail
    refine (live5_any _).mono ?_
    rintro e wk ⟨rfl, k1⟩
    replace K := K.trans k1
    clear k1
    go_wp2
    go_ret
    exact ⟨rfl, K⟩
  by_cases hk33 : k = 33
  · subst hk33
    have hs : Dt.shp 33 = some ⟨6, 1, 0⟩ := rfl
    have hc : Dt.checkB 33 (bl ⟨#[49, 50, 51, 52, 53, 54, 192, 0]⟩) = false := by decide +kernel
    obtain ⟨f1, f2, f3⟩ := ptr_facts (k := 33) (m := base ++ ⟨#[49, 50, 51, 52, 53, 54, 192, 0]⟩) (base := base) (D := ⟨#[49, 50, 51, 52, 53, 54, 192, 0]⟩) (X := ⟨#[49, 50, 51, 52, 53, 54]⟩ ++ base) rfl (ptr_one hs rfl rfl (bl base) (bl ⟨#[49, 50, 51, 52, 53, 54]⟩) ho rfl) (by rw [bl_append]; simp [Dt.Pt.join])
    have f4 : (⟨#[49, 50, 51, 52, 53, 54, 192, 0]⟩ : ByteArray).size = 8 := by decide
    have f5 : (⟨#[49, 50, 51, 52, 53, 54]⟩ : ByteArray).size = 6 := by decide
    rw [f4, show ((8 : Nat) : Int) = 8 from rfl] at f1 f2
    have g1 : (⟨#[49, 50, 51, 52, 53, 54]⟩ : ByteArray) ++ ⟨#[192, 0]⟩ = ⟨#[49, 50, 51, 52, 53, 54, 192, 0]⟩ := by decide
    have g2 : (⟨#[49, 50, 51, 52, 53, 54, 192, 0]⟩ : ByteArray) ++ ⟨#[]⟩ = ⟨#[49, 50, 51, 52, 53, 54, 192, 0]⟩ := by decide
    have ms : (base ++ ⟨#[49, 50, 51, 52, 53, 54, 192, 0]⟩).size ≤ maxLen := by rw [ByteArray.size_append, f4]; unfold maxLen; omega
    have md : (⟨#[49, 50, 51, 52, 53, 54, 192, 0]⟩ : ByteArray).size ≤ maxLen := by rw [f4]; decide
    have mx : (⟨#[49, 50, 51, 52, 53, 54]⟩ ++ base).size ≤ maxLen := by rw [ByteArray.size_append, f5]; unfold maxLen; omega
    go_enter Try.func6, Try.ntmps6
    go_wp2_with fail
    refine (refcheck_any _ _ hm).mono ?_
    rintro e wk ⟨rfl, k1⟩
    replace K := K.trans k1
    clear k1
    rw [ho]
    go_wp2_with fail
    refine (expand_any _ _ _ _ _ ms (by omega)).mono ?_
    rintro e wk ⟨rfl, k1⟩
    replace K := K.trans k1
    clear k1
    rw [f1, f2]
    go_wp2_with fail
    refine (dcheck_any _ _ _ mx).mono ?_
    rintro e wk ⟨rfl, k1⟩
    replace K := K.trans k1
    clear k1
    rw [f3]
    go_wp2_with fail
    refine (dcheck_any _ _ _ md).mono ?_
    rintro e wk ⟨rfl, k1⟩
    replace K := K.trans k1
    clear k1
    rw [hc]
    go_wp2_with fail
    refine (live5_any _).mono ?_
    rintro e wk ⟨rfl, k1⟩
    replace K := K.trans k1
    clear k1
    go_wp2
    go_ret
    exact ⟨rfl, K⟩
  by_cases hk6 : k = 6
  · subst hk6
    have hc : Dt.checkB 6 (bl ⟨#[192, 0, 192, 0, 49, 50, 51, 52, 53, 54, 55, 56, 57, 48, 49, 50, 51, 52, 53, 54, 55, 56, 57, 48]⟩) = false := by decide +kernel
    obtain ⟨f1, f2, f3⟩ := ptr_facts (k := 6) (m := base ++ ⟨#[192, 0, 192, 0, 49, 50, 51, 52, 53, 54, 55, 56, 57, 48, 49, 50, 51, 52, 53, 54, 55, 56, 57, 48]⟩) (base := base) (D := ⟨#[192, 0, 192, 0, 49, 50, 51, 52, 53, 54, 55, 56, 57, 48, 49, 50, 51, 52, 53, 54, 55, 56, 57, 48]⟩) (X := base ++ base ++ ⟨#[49, 50, 51, 52, 53, 54, 55, 56, 57, 48, 49, 50, 51, 52, 53, 54, 55, 56, 57, 48]⟩) rfl (ptr_two (bl base) (bl ⟨#[49, 50, 51, 52, 53, 54, 55, 56, 57, 48, 49, 50, 51, 52, 53, 54, 55, 56, 57, 48]⟩) ho rfl) (by rw [bl_append, bl_append]; simp [Dt.Pt.join])
    have f4 : (⟨#[192, 0, 192, 0, 49, 50, 51, 52, 53, 54, 55, 56, 57, 48, 49, 50, 51, 52, 53, 54, 55, 56, 57, 48]⟩ : ByteArray).size = 24 := by decide
    have f5 : (⟨#[49, 50, 51, 52, 53, 54, 55, 56, 57, 48, 49, 50, 51, 52, 53, 54, 55, 56, 57, 48]⟩ : ByteArray).size = 20 := by decide
    rw [f4, show ((24 : Nat) : Int) = 24 from rfl] at f1 f2
    have g1 : (⟨#[]⟩ : ByteArray) ++ ⟨#[192, 0]⟩ = ⟨#[192, 0]⟩ := by decide
    have g2 : (⟨#[192, 0]⟩ : ByteArray) ++ ⟨#[192, 0, 49, 50, 51, 52, 53, 54, 55, 56, 57, 48, 49, 50, 51, 52, 53, 54, 55, 56, 57, 48]⟩ = ⟨#[192, 0, 192, 0, 49, 50, 51, 52, 53, 54, 55, 56, 57, 48, 49, 50, 51, 52, 53, 54, 55, 56, 57, 48]⟩ := by decide
    have ms : (base ++ ⟨#[192, 0, 192, 0, 49, 50, 51, 52, 53, 54, 55, 56, 57, 48, 49, 50, 51, 52, 53, 54, 55, 56, 57, 48]⟩).size ≤ maxLen := by rw [ByteArray.size_append, f4]; unfold maxLen; omega
    have md : (⟨#[192, 0, 192, 0, 49, 50, 51, 52, 53, 54, 55, 56, 57, 48, 49, 50, 51, 52, 53, 54, 55, 56, 57, 48]⟩ : ByteArray).size ≤ maxLen := by rw [f4]; decide
    have mx : (base ++ base ++ ⟨#[49, 50, 51, 52, 53, 54, 55, 56, 57, 48, 49, 50, 51, 52, 53, 54, 55, 56, 57, 48]⟩).size ≤ maxLen := by rw [ByteArray.size_append, ByteArray.size_append, f5]; unfold maxLen; omega
    go_enter Try.func6, Try.ntmps6
    go_wp2_with fail
    refine (refcheck_any _ _ hm).mono ?_
    rintro e wk ⟨rfl, k1⟩
    replace K := K.trans k1
    clear k1
    rw [ho]
    go_wp2_with fail
    refine (expand_any _ _ _ _ _ ms (by omega)).mono ?_
    rintro e wk ⟨rfl, k1⟩
    replace K := K.trans k1
    clear k1
    rw [f1, f2]
    go_wp2_with fail
    refine (dcheck_any _ _ _ mx).mono ?_
    rintro e wk ⟨rfl, k1⟩
    replace K := K.trans k1
    clear k1
    rw [f3]
    go_wp2_with fail
    refine (dcheck_any _ _ _ md).mono ?_
    rintro e wk ⟨rfl, k1⟩
    replace K := K.trans k1
    clear k1
    rw [hc]
    go_wp2_with fail
    refine (live5_any _).mono ?_
    rintro e wk ⟨rfl, k1⟩
    replace K := K.trans k1
    clear k1
    go_wp2
    go_ret
    exact ⟨rfl, K⟩
  have h2 : (k == 2) = false := beq_eq_false_iff_ne.2 (fun h => hk (.inl h))
  have h5 : (k == 5) = false := beq_eq_false_iff_ne.2 (fun h => hk (.inr (.inl h)))
  have h12 : (k == 12) = false := beq_eq_false_iff_ne.2 (fun h => hk (.inr (.inr h)))
  have h15 : (k == 15) = false := beq_eq_false_iff_ne.2 hk15
  have h33 : (k == 33) = false := beq_eq_false_iff_ne.2 hk33
  have h6 : (k == 6) = false := beq_eq_false_iff_ne.2 hk6
  clear hk hk15 hk33 hk6
  go_enter Try.func6, Try.ntmps6
  go_wp2_with fail
  refine (refcheck_any _ _ hm).mono ?_
  rintro e wk ⟨rfl, k1⟩
  replace K := K.trans k1
  clear k1
  rw [ho]
  go_wp2_with fail
  refine (live5_any _).mono ?_
  rintro e wk ⟨rfl, k1⟩
  replace K := K.trans k1
  clear k1
  go_wp2
  go_ret
  exact ⟨rfl, K⟩
end Go.Proofs.Ytfhdibkacclkaaa
