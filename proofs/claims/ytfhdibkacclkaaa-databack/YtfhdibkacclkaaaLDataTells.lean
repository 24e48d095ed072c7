/- DataTells answers true, for every input: the walk. -/
import Derived.Test.YtfhdibkacclkaaaDataLive
namespace Go.Proofs.Ytfhdibkacclkaaa
open Go.RowKit

theorem namesL_len (k : Int) (d : List UInt8) : (Dt.namesL k d).length ≤ 2 := by
  rcases Option.eq_none_or_eq_some (Dt.wholeL k d) with h | ⟨x, h⟩
  · rw [namesL_none h]; simp
  · rw [namesL_some h]; exact (Dt.whole_names h).1

set_option maxHeartbeats 1600000 in
theorem DataTells_walk (k : Int) (d : ByteArray) (w : World) (_ : -9223372036854775808 ≤ k ∧ k ≤ 9223372036854775807) (hm : d.size ≤ maxLen) :
    Calls Try.prog 4 #[.int .i64 k, .string d] w fun e w' => e = .returned (.bool true) ∧ Keeps w w' := by
  have hm' := hm
  unfold maxLen at hm'
  by_cases hl : 70000 < (d.size : Int)
  · go_enter Try.func4, Try.ntmps4
    go_wp2_with (go_at_call 8; refine (live5_any _).mono ?_; rintro e w3 ⟨rfl, k3⟩)
    go_ret
    exact ⟨rfl, k3⟩
  have HA := hide (fun W => dcheck_any k d W hm)
  have HB := hide (fun W => refcheck5_any k d W hm)
  have HC := hide (fun W => dnames_any k d W hm)
  have HD := hide (fun W => refnames5_any k d W hm)
  have HE := hide (fun W => dlow_any k d W hm)
  have HF := hide (fun W => reflow5_any k d W hm)
  have hN := namesL_len k (bl d)
  generalize Dt.checkB k (bl d) = C at *
  generalize Dt.namesL k (bl d) = N at *
  generalize (⟨(Dt.lowD k (bl d)).toArray⟩ : ByteArray) = L at *
  go_enter Try.func4, Try.ntmps4
  have K := Keeps.refl w
  go_wp2_with fail
  refine (HA.out _).mono ?_
  rintro e wk ⟨rfl, k1⟩
  replace K := K.trans k1
  go_wp2_with fail
  refine (HB.out _).mono ?_
  rintro e wk ⟨rfl, k1⟩
  replace K := K.trans k1
  go_wp2_with fail
  refine (HC.out _).mono ?_
  rintro e w2 ⟨v2, rfl, o2, k2⟩
  replace K := K.trans k2
  have R2 := hide o2.read
  clear o2
  go_wp2_with fail
  refine (HD.out _).mono ?_
  rintro e w3 ⟨v3, rfl, o3, k3⟩
  replace K := K.trans k3
  have R3 := hide o3.read
  clear o3
  go_wp2_with fail
  refine (texts_any _ _ _ _ _ (R2.out.keeps k3) R3.out (by omega)).mono ?_
  rintro e wt ⟨rfl, kt⟩
  replace K := K.trans kt
  rw [beq_self_eq_true]
  go_wp2_with fail
  refine (HE.out _).mono ?_
  rintro e wk ⟨rfl, k1⟩
  replace K := K.trans k1
  go_wp2_with fail
  refine (HF.out _).mono ?_
  rintro e wk ⟨rfl, k1⟩
  replace K := K.trans k1
  go_wp2_with fail
  refine (live5_any _).mono ?_
  rintro e wk ⟨rfl, k1⟩
  replace K := K.trans k1
  go_wp2
  go_ret
  exact ⟨rfl, K⟩
end Go.Proofs.Ytfhdibkacclkaaa
