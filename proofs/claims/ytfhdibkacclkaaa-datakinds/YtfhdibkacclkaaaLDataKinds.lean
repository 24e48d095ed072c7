/- DataKinds answers true, for every input: the walk. -/
import Derived.Test.YtfhdibkacclkaaaLDataTells
namespace Go.Proofs.Ytfhdibkacclkaaa
open Go.RowKit

theorem check_size {k : Int} {s : Dt.Sh} (hs : Dt.shp k = some s) (hn : s.n = 0) (hb : s.b = 0) (d : List UInt8) : Dt.checkB k d = (d.length == s.a) := by
  have ha := (Dt.shp_small hs).1
  by_cases h : d.length = s.a
  · have hf : Dt.Fits s ⟨d, [], []⟩ := ⟨h, by simp [hn], by simp, by simp [hb]⟩
    have := Dt.wholeL_shape hs hf
    simp only [Dt.Pt.join, List.flatten_nil, List.append_nil] at this
    rw [Dt.checkB, this]; simp [h]
  · have : Dt.wholeL k d = none := by
      rcases Option.eq_none_or_eq_some (Dt.wholeL k d) with h2 | ⟨x, h2⟩
      · exact h2
      · obtain ⟨h3, ⟨s', hs', hf⟩ | ⟨hs', _⟩⟩ := Dt.wholeL_parts h2
        · rw [hs] at hs'
          cases hs'
          obtain ⟨g1, g2, g3, g4⟩ := hf
          have e1 : x.ns = [] := List.length_eq_zero_iff.1 (by omega)
          have e2 : x.b = [] := List.length_eq_zero_iff.1 (by omega)
          rw [Dt.Pt.join, e1, e2] at h3
          simp at h3
          rw [h3] at g1
          exact absurd g1 h
        · rw [hs] at hs'; cases hs'
    rw [Dt.checkB, this]
    simp [h]
theorem plain_kind {k : Int} {d : List UInt8} (h1 : k ∉ shKinds) (hn : d.length ≤ 65535) : Dt.wholeL k d = some ⟨d, [], []⟩ := by
  refine Dt.wholeL_plain (find_miss k h1).2.2.2 hn ?_
  rintro rfl
  exact absurd (by decide) h1
theorem size_b (d : ByteArray) (k : Nat) : ((bl d).length == k) = ((d.size : Int) == (k : Int)) := by
  rw [Bool.eq_iff_iff, beq_iff_eq, beq_iff_eq, bl_length]; omega

set_option maxHeartbeats 4000000 in
theorem DataKinds_walk (d : ByteArray) (k : Int) (w : World) (hm : d.size ≤ maxLen) (_ : -9223372036854775808 ≤ k ∧ k ≤ 9223372036854775807) :
    Calls Try.prog 7 #[.string d, .int .i64 k] w fun e w' => e = .returned (.bool true) ∧ Keeps w w' := by
  have hm' := hm
  unfold maxLen at hm'
  have K := Keeps.refl w
  by_cases hl : 65535 < (d.size : Int)
  · go_enter Try.func7, Try.ntmps7
    go_wp2_with (go_at_call 8; refine (live5_any _).mono ?_; rintro e w3 ⟨rfl, k3⟩)
    go_ret
    exact ⟨rfl, k3⟩
  have hA := fun W => dcheck_any 1 d W hm
  have hB := fun W => dcheck_any 28 d W hm
  rw [check_size (s := ⟨4, 0, 0⟩) rfl rfl rfl, size_b] at hA
  rw [check_size (s := ⟨16, 0, 0⟩) rfl rfl rfl, size_b] at hB
  have HA := hide hA
  have HB := hide hB
  clear hA hB
  have HC := hide (fun W => dcheck_any k d W hm)
  have HD := hide (fun W => dlow_any k d W hm)
  have HE := hide (fun W => dnames_any k d W hm)
  by_cases hk : k ∈ shKinds
  · simp only [shKinds, List.mem_cons, List.not_mem_nil, or_false] at hk
    clear HC HD HE
    rcases hk with rfl | rfl | rfl | rfl | rfl | rfl | rfl | rfl | rfl
    all_goals
      go_enter Try.func7, Try.ntmps7
      go_wp2_with fail
      refine (HA.out _).mono ?_
      rintro e wk ⟨rfl, k1⟩
      replace K := K.trans k1
      clear k1
      go_wp2_with fail
      refine (HB.out _).mono ?_
      rintro e wk ⟨rfl, k1⟩
      replace K := K.trans k1
      clear k1
      go_wp2_with fail
      refine (live5_any _).mono ?_
      rintro e wk ⟨rfl, k1⟩
      replace K := K.trans k1
      clear k1
      go_wp2
      go_ret
      exact ⟨rfl, K⟩
  · have hr := plain_kind (d := bl d) hk (by rw [bl_length]; omega)
    have e1 : Dt.checkB k (bl d) = true := by rw [Dt.checkB, hr]; rfl
    have e2 : (⟨(Dt.lowD k (bl d)).toArray⟩ : ByteArray) = d := by
      apply bl_inj
      rw [bl_mk, lowD_some hr]
      simp [Dt.Pt.low, Dt.Pt.join]
    have e3 : Dt.namesL k (bl d) = [] := namesL_some hr
    rw [e1] at HC
    rw [e2] at HD
    rw [e3] at HE
    clear e1 e2 e3 hr
    simp only [shKinds, List.mem_cons, List.not_mem_nil, or_false, not_or] at hk
    obtain ⟨h1, h2, h3, h4, h5, h6, h7, h8, h9⟩ := hk
    replace h1 : (k == 1) = false := beq_eq_false_iff_ne.2 h1
    replace h2 : (k == 2) = false := beq_eq_false_iff_ne.2 h2
    replace h3 : (k == 5) = false := beq_eq_false_iff_ne.2 h3
    replace h4 : (k == 6) = false := beq_eq_false_iff_ne.2 h4
    replace h5 : (k == 12) = false := beq_eq_false_iff_ne.2 h5
    replace h6 : (k == 15) = false := beq_eq_false_iff_ne.2 h6
    replace h7 : (k == 16) = false := beq_eq_false_iff_ne.2 h7
    replace h8 : (k == 28) = false := beq_eq_false_iff_ne.2 h8
    replace h9 : (k == 33) = false := beq_eq_false_iff_ne.2 h9
    go_enter Try.func7, Try.ntmps7
    go_wp2_with fail
    refine (HA.out _).mono ?_
    rintro e wk ⟨rfl, k1⟩
    replace K := K.trans k1
    clear k1
    go_wp2_with fail
    refine (HB.out _).mono ?_
    rintro e wk ⟨rfl, k1⟩
    replace K := K.trans k1
    clear k1
    go_wp2_with fail
    refine (HC.out _).mono ?_
    rintro e wk ⟨rfl, k1⟩
    replace K := K.trans k1
    clear k1
    go_wp2_with fail
    refine (HD.out _).mono ?_
    rintro e wk ⟨rfl, k1⟩
    replace K := K.trans k1
    clear k1
    go_wp2_with fail
    refine (HE.out _).mono ?_
    rintro e wk ⟨v, rfl, o1, k1⟩
    obtain ⟨ua, uc, rfl⟩ := o1.read.len
    replace K := K.trans k1
    clear k1 o1
    go_wp2_with fail
    refine (live5_any _).mono ?_
    rintro e wk ⟨rfl, k1⟩
    replace K := K.trans k1
    clear k1
    go_wp2
    go_ret
    exact ⟨rfl, K⟩
end Go.Proofs.Ytfhdibkacclkaaa
