/- EdnsCodes answers true, for every input: the walk. The condition: the table of places reads as the program's text lays it. -/
import Derived.Test.YtojihkejlmggcaaDoorEdns7
namespace Go.Proofs.YtojihkejlmggcaaDoor
open Go.RowKit

set_option maxHeartbeats 4000000 in
set_option maxRecDepth 100000 in
theorem EdnsCodes_walk (c b : Int) (w : World) (T : Tab w) (_ : -9223372036854775808 ≤ c ∧ c ≤ 9223372036854775807) (_ : -9223372036854775808 ≤ b ∧ b ≤ 9223372036854775807) :
    Calls Tryd.prog 7 #[.int .i64 c, .int .i64 b] w fun e w' => e = .returned (.bool true) ∧ Keeps w w' := by
  have HT := hide T
  clear T
  by_cases c0 : c < 0
  · go_enter Tryd.func7, Tryd.ntmps7
    go_wp2_with fail
    refine (live9_any _ HT.out).mono ?_
    rintro e w4 ⟨rfl, k1⟩
    go_wp2
    go_ret
    exact ⟨rfl, k1⟩
  by_cases c1 : 2047 < c
  · go_enter Tryd.func7, Tryd.ntmps7
    go_wp2_with fail
    refine (live9_any _ HT.out).mono ?_
    rintro e w4 ⟨rfl, k1⟩
    go_wp2
    go_ret
    exact ⟨rfl, k1⟩
  have HW := hide (fun W => refwith_any 8 b (c % 16) W)
  cases hm : Fl.may 8 b (c % 16)
  · rw [hm] at HW
    go_enter Tryd.func7, Tryd.ntmps7
    go_wp2_with fail
    refine (HW.out _).mono ?_
    rintro e w1 ⟨rfl, k1⟩
    have K := hide k1
    clear k1
    go_wp2_with fail
    refine (live9_any _ (HT.out.keeps K.out)).mono ?_
    rintro e w4 ⟨rfl, k1⟩
    go_wp2
    go_ret
    exact ⟨rfl, K.out.trans k1⟩
  rw [hm] at HW
  have ho : Fl.of 8 (Fl.with_ 8 b (c % 16)) = c % 16 := by
    rw [with_yes hm, Fl.of_lay hm (by decide)]
    rfl
  generalize Fl.with_ 8 b (c % 16) = B at *
  have hok : opOk ⟨true, 512, c / 16, 0, false⟩ = true := by
    simp [opOk, fitB]
    omega
  have HR := hide (fun W => record_any ⟨true, 512, c / 16, 0, false⟩ W)
  rw [hok] at HR
  have hfm : findM ⟨0, 0, [], [], [], [opRec ⟨true, 512, c / 16, 0, false⟩]⟩ = (⟨true, 512, c / 16, 0, false⟩, 0) := findM_with (m := noMs) hok rfl rfl rfl
  have hfi := opRec_fine (o := ⟨true, 512, c / 16, 0, false⟩)
  generalize opRec ⟨true, 512, c / 16, 0, false⟩ = R at *
  have HFI : Hid (MsFine ⟨0, 0, [], [], [], [R]⟩) := ⟨⟨Nat.zero_le _, by simp⟩, ⟨Nat.zero_le _, by simp⟩, ⟨Nat.zero_le _, by simp⟩, ⟨by unfold maxLen; simp, fun x hx => by simp at hx; subst hx; exact hfi⟩⟩
  have HF : Hid (∀ W v, MsAt W v ⟨0, 0, [], [], [], [R]⟩ → Calls Tryd.prog 10 #[v] W fun e w' => e = .returned (.tuple #[.agg #[.bool true, .int .i64 512, .int .i64 (c / 16), .int .i64 0, .bool false], .int .i64 0]) ∧ Keeps W w') := fun W v h => by
    have := Find_any v _ W h HFI.out
    rw [hfm] at this
    exact this
  have HC1 : Hid (∀ W, Tab W → Calls Tryd.prog 16 #[.int .i64 B, .agg #[.bool true, .int .i64 512, .int .i64 (c / 16), .int .i64 0, .bool false]] W fun e w' => e = .returned (.int .i64 c) ∧ Keeps W w') := fun W t => by
    have := code_any B ⟨true, 512, c / 16, 0, false⟩ W t (by simp only; omega)
    rw [show opCode B ⟨true, 512, c / 16, 0, false⟩ = c by simp only [opCode, ho, if_true]; omega] at this
    exact this
  have HC2 : Hid (∀ W, Tab W → Calls Tryd.prog 16 #[.int .i64 B, .agg #[.bool false, .int .i64 0, .int .i64 0, .int .i64 0, .bool false]] W fun e w' => e = .returned (.int .i64 (c % 16)) ∧ Keeps W w') := fun W t => by
    have := code_any B noOp W t (by decide)
    rw [show opCode B noOp = c % 16 by simp [opCode, ho, noOp]] at this
    exact this
  clear hfm hfi hok ho hm HFI
  obtain ⟨rn, rt, rc, rl, rd⟩ := R
  simp only [recV, opV] at HR
  go_enter Tryd.func7, Tryd.ntmps7
  go_wp2_with fail
  refine (HW.out _).mono ?_
  rintro e w1 ⟨rfl, k1⟩
  have K := hide k1
  clear k1 HW
  go_upto_region 7 with fail
  have k1 := (Keeps.refl w1).alloc (.cells #[.bool true, .int .i64 512, .int .i64 (c / 16), .int .i64 0, .bool false] 29)
  have BO := hide (Blk.made w1 #[.bool true, .int .i64 512, .int .i64 (c / 16), .int .i64 0, .bool false] 29)
  replace K := hide (K.out.trans k1)
  clear k1
  generalize w1.alloc (.cells #[.bool true, .int .i64 512, .int .i64 (c / 16), .int .i64 0, .bool false] 29) = W1 at *
  generalize w1.heap.size = G1 at *
  obtain ⟨a0, a1, a2, a3, a4, _, _, _, _, _, _⟩ := BO.out.cell5
  go_wp2_with fail
  refine (HR.out _).mono ?_
  rintro e w2 ⟨rfl, k1⟩
  replace K := hide (K.out.trans k1)
  clear k1 a0 a1 a2 a3 a4 BO HR
  go_upto_region 8 with fail
  have k1 := (Keeps.refl w2).alloc (.cells #[.string rn, .int .i64 rt, .int .i64 rc, .int .i64 rl, .string rd] 37)
  have BR := hide (Blk.made w2 #[.string rn, .int .i64 rt, .int .i64 rc, .int .i64 rl, .string rd] 37)
  replace K := hide (K.out.trans k1)
  clear k1
  generalize w2.alloc (.cells #[.string rn, .int .i64 rt, .int .i64 rc, .int .i64 rl, .string rd] 37) = W2 at *
  generalize w2.heap.size = G2 at *
  obtain ⟨a0, a1, a2, a3, a4, _, _, _, _, _, _⟩ := BR.out.cell5
  go_wp2_with fail
  clear a0 a1 a2 a3 a4 BR
  have k1 := (Keeps.refl W2).alloc (.cells #[.string rn, .int .i64 rt, .int .i64 rc, .int .i64 rl, .string rd] 37)
  have BS := hide (Blk.made W2 #[.string rn, .int .i64 rt, .int .i64 rc, .int .i64 rl, .string rd] 37)
  replace K := hide (K.out.trans k1)
  clear k1
  generalize W2.alloc (.cells #[.string rn, .int .i64 rt, .int .i64 rc, .int .i64 rl, .string rd] 37) = W3 at *
  generalize W2.heap.size = G3 at *
  refine (HF.out _ _ (ms_ar (r := ⟨rn, rt, rc, rl, rd⟩) BS.out)).mono ?_
  rintro e w3 ⟨rfl, k1⟩
  replace K := hide (K.out.trans k1)
  clear k1 BS HF
  go_upto_region 9 with fail
  have k1 := (Keeps.refl w3).alloc (.cells #[.bool true, .int .i64 512, .int .i64 (c / 16), .int .i64 0, .bool false] 29)
  have BO := hide (Blk.made w3 #[.bool true, .int .i64 512, .int .i64 (c / 16), .int .i64 0, .bool false] 29)
  replace K := hide (K.out.trans k1)
  clear k1
  generalize w3.alloc (.cells #[.bool true, .int .i64 512, .int .i64 (c / 16), .int .i64 0, .bool false] 29) = W4 at *
  generalize w3.heap.size = G4 at *
  obtain ⟨a0, a1, a2, a3, a4, _, _, _, _, _, _⟩ := BO.out.cell5
  go_wp2_with fail
  refine (HC1.out _ (HT.out.keeps K.out)).mono ?_
  rintro e w4 ⟨rfl, k1⟩
  replace K := hide (K.out.trans k1)
  clear k1 a0 a1 a2 a3 a4 BO HC1
  go_wp2_with fail
  refine (HC2.out _ (HT.out.keeps K.out)).mono ?_
  rintro e w5 ⟨rfl, k1⟩
  replace K := hide (K.out.trans k1)
  clear k1
  go_wp2_with fail
  refine (live9_any _ (HT.out.keeps K.out)).mono ?_
  rintro e w6 ⟨rfl, k1⟩
  replace K := hide (K.out.trans k1)
  clear k1
  go_wp2
  go_ret
  exact ⟨rfl, K.out⟩
end Go.Proofs.YtojihkejlmggcaaDoor
