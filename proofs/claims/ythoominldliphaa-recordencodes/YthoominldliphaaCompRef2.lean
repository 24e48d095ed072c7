/- What the document's Write of layer 4 answers, for every input. -/
import Derived.Test.YthoominldliphaaCompWalk2
import Derived.Test.YthoominldliphaaOctWalk4
import Derived.Test.YthoominldliphaaNameRef1
import Derived.Test.YthoominldliphaaNameRef2
namespace Go.Proofs.Ythoominldliphaa
open Go.RowKit

def RoRel (base n : ByteArray) (w : World) (s : Value) (wr : World) : Prop :=
  ∃ R : ByteArray, s = .string R ∧ Nm.okL (bl R) = true ∧ R.size ≤ n.size ∧ (Cm.ends (bl n)).find? (fun r => (Cm.mate (bl base) r).isSome) = (Cm.ends (bl R)).find? (fun r => (Cm.mate (bl base) r).isSome) ∧ Keeps w wr
theorem RoRel.mk {base n : ByteArray} {w wr : World} (R : ByteArray) (h1 : Nm.okL (bl R) = true) (h2 : R.size ≤ n.size) (h3 : (Cm.ends (bl n)).find? (fun r => (Cm.mate (bl base) r).isSome) = (Cm.ends (bl R)).find? (fun r => (Cm.mate (bl base) r).isSome)) (h4 : Keeps w wr) : RoRel base n w (.string R) wr := ⟨R, rfl, h1, h2, h3, h4⟩
def RiRel (base R : ByteArray) (w : World) (s : Value) (wr : World) : Prop :=
  ∃ E : ByteArray, s = .string E ∧ Nm.okL (bl E) = true ∧ E.size ≤ base.size ∧ Cm.mate (bl base) (bl R) = (Cm.ends (bl E)).find? (fun e => Nm.sameB e (bl R)) ∧ Keeps w wr
theorem RiRel.mk {base R : ByteArray} {w wr : World} (E : ByteArray) (h1 : Nm.okL (bl E) = true) (h2 : E.size ≤ base.size) (h3 : Cm.mate (bl base) (bl R) = (Cm.ends (bl E)).find? (fun e => Nm.sameB e (bl R))) (h4 : Keeps w wr) : RiRel base R w (.string E) wr := ⟨E, rfl, h1, h2, h3, h4⟩
theorem one_root {l : List UInt8} (h : Nm.okL l = true) (h1 : l.length ≤ 1) : l = [0] := by
  by_cases hr : l = [0]
  · exact hr
  · have := (Nm.up1_ok h hr).2.1; omega

set_option maxHeartbeats 2000000 in
set_option maxRecDepth 100000 in
theorem refwrite_yes (base : ByteArray) (p : Nat) (n : ByteArray) (w : World) (hb : base.size ≤ maxLen) (hn : n.size ≤ maxLen) (h1 : Nm.okL (bl base) = true) (h2 : Nm.okL (bl n) = true) (hp : (p : Int) ≤ 16000) :
    Calls Try.prog 34 #[.string base, .int .i64 p, .string n] w fun e w' => e = .returned (.string ⟨(Cm.wrR (bl base) p (bl n)).toArray⟩) ∧ Keeps w w' := by
  have b255 : base.size ≤ 255 := by have := ((Nm.okL_spec _).1 h1).1; rw [bl_length] at this; exact this
  have n255 : n.size ≤ 255 := by have := ((Nm.okL_spec _).1 h2).1; rw [bl_length] at this; exact this
  go_enter Try.func34, Try.ntmps34
  go_wp2_with fail
  refine (refcheck_any _ _ hb).mono ?_
  rintro e w1 ⟨rfl, k1⟩
  rw [h1]
  go_wp2_with fail
  refine (refcheck_any _ _ hn).mono ?_
  rintro e w2 ⟨rfl, k2⟩
  rw [h2]
  go_wp2
  go_loopw [7] (fun s wr => RoRel base n w s wr) (fun s _ => (strOf s).size)
  case atStart => exact RoRel.mk n h2 (Nat.le_refl _) rfl (k1.trans k2)
  case round =>
    obtain ⟨R, rfl, hR, hle, hfd, hk⟩ := hrel
    have HFD := hide hfd
    clear hfd k1 k2
    have hRm : R.size ≤ maxLen := Nat.le_trans hle hn
    by_cases hone : (1 : Int) < R.size
    · have hr : bl R ≠ [0] := fun e => by
        have := bl_length R
        rw [e] at this; simp at this; omega
      have hst := Cm.ends_step hR hr
      have HST := hide hst
      clear hst
      go_wp2
      go_loopw [8] (fun s wr2 => RiRel base R w s wr2) (fun s _ => (strOf s).size)
      case atStart => exact RiRel.mk base h1 (Nat.le_refl _) rfl hk
      case round =>
        obtain ⟨E, rfl, hE, hle2, hfd2, hk2⟩ := hrel
        have HFD2 := hide hfd2
        clear hfd2
        have hEm : E.size ≤ maxLen := Nat.le_trans hle2 hb
        by_cases hone2 : (1 : Int) < E.size
        · have hr2 : bl E ≠ [0] := fun e => by
            have := bl_length E
            rw [e] at this; simp at this; omega
          have hst2 := Cm.ends_step hE hr2
          cases hsm : Nm.sameB (bl E) (bl R)
          · have HN : Hid (Cm.mate (bl base) (bl R) = (Cm.ends (bl (upS E))).find? (fun e => Nm.sameB e (bl R))) := by
              unfold Hid
              rw [HFD2.out, hst2, List.find?_cons, hsm, bl_upS E hE hr2]
            have HU := hide (Nm.up1_ok hE hr2)
            have HB := hide (bl_upS E hE hr2)
            clear hr hr2 hst2
            go_wp2_with fail
            refine (refsame_any _ _ _ hEm hRm).mono ?_
            rintro e w3 ⟨rfl, k3⟩
            rw [hsm]
            go_wp2_with fail
            refine (refup_any _ _ hEm).mono ?_
            rintro e w4 ⟨rfl, k4⟩
            go_wp2
            go_roundw
            case rel =>
              have hs := HU.out.2.1
              rw [← HB.out, bl_length, bl_length] at hs
              exact RiRel.mk _ (by rw [HB.out]; exact HU.out.1) (by omega) HN.out ((hk2.trans k3).trans k4)
            case measure =>
              have hs := HU.out.2.1
              rw [← HB.out, bl_length, bl_length] at hs
              simp only [strOf]
              omega
          · have hme : Cm.mate (bl base) (bl R) = some (bl E) := by
              rw [HFD2.out, hst2, List.find?_cons, hsm]
            have HF : Hid (Cm.wrR (bl base) p (bl n) = Cm.cutTo (bl base) p (bl n) R.size) := by
              unfold Hid Cm.wrR
              rw [HFD.out, HST.out, List.find?_cons, hme, ← bl_length R]
              rfl
            have hER : E.size = R.size := by
              have := Cm.same_length hsm
              rwa [bl_length, bl_length] at this
            have HER := hide hER
            have HC := hide (cut_str n R.size (p + base.size - E.size) hle)
            have hi : IntKind.i64.wrap ((n.size : Int) - (R.size : Int)) = (n.size : Int) - (R.size : Int) := by rw [IntKind.wrap_i64]; omega
            have r1 : ∀ w, (Instr.slice 9 (.string n) none (some (.int .i64 ((n.size : Int) - (R.size : Int)))) none).run Try.prog w = .ok (.string (n.extract 0 (n.size - R.size))) w := by
              intro w; rw [run_slice_string_to_if w _ n .i64 _ Try.underlying9, if_pos (by omega), show ((n.size : Int) - (R.size : Int)).toNat = n.size - R.size by omega]
            have hA : (n.extract 0 (n.size - R.size)).size ≤ 255 := by rw [ByteArray.size_extract]; omega
            have hP := putS_size (49152 + (p : Int) + (base.size : Int) - (E.size : Int)) 2
            have hPm : 49152 + (p : Int) + (base.size : Int) - (E.size : Int) ≤ 9223372036854775807 := by omega
            generalize n.extract 0 (n.size - R.size) = A at *
            have r2 : ∀ w, (Op.stringOp .add A (Oct.putS (49152 + (p : Int) + (base.size : Int) - (E.size : Int)) 2)).run Try.prog w = .ok (.string (A ++ Oct.putS (49152 + (p : Int) + (base.size : Int) - (E.size : Int)) 2)) w := fun w => run_string_add_sum w _ _ (by omega)
            clear hr hr2 hst2 hA hP hme hER
            go_wp2_with fail
            refine (refsame_any _ _ _ hEm hRm).mono ?_
            rintro e w3 ⟨rfl, k3⟩
            rw [hsm]
            go_wp2
            go_region_held3 (fun _ => True) (trivial) ((go_at_call 20; refine (refput_any _ _ _ hPm).mono ?_; rintro e w5 ⟨rfl, k5⟩))
            go_wp2
            go_ret
            refine ⟨ret_str ?_, (hk2.trans k3).drew.trans k5⟩
            have e2 : (49152 + (p : Int) + (base.size : Int) - (E.size : Int)) = ((49152 + (p + base.size - E.size) : Nat) : Int) := by omega
            rw [HF.out, e2, HC.out.resolve_right (by omega), Cm.cutTo, bl_length base, HER.out, show 49152 + p + base.size - R.size = 49152 + (p + base.size - R.size) by have := HER.out; omega]
        · have hr2 : bl E = [0] := one_root hE (by rw [bl_length]; omega)
          have hme : Cm.mate (bl base) (bl R) = none := by
            rw [HFD2.out, hr2, Cm.ends_root]; rfl
          have HN : Hid ((Cm.ends (bl n)).find? (fun r => (Cm.mate (bl base) r).isSome) = (Cm.ends (bl (upS R))).find? (fun r => (Cm.mate (bl base) r).isSome)) := by
            unfold Hid
            rw [HFD.out, HST.out, List.find?_cons, hme, bl_upS R hR hr]
            rfl
          have HU := hide (Nm.up1_ok hR hr)
          have HB := hide (bl_upS R hR hr)
          clear hr hr2 hme
          go_wp2_with fail
          refine (refup_any _ _ hRm).mono ?_
          rintro e w4 ⟨rfl, k4⟩
          go_wp2
          go_roundw
          case rel =>
            have hs := HU.out.2.1
            rw [← HB.out, bl_length, bl_length] at hs
            exact RoRel.mk _ (by rw [HB.out]; exact HU.out.1) (by omega) HN.out (hk2.trans k4)
          case measure =>
            have hs := HU.out.2.1
            rw [← HB.out, bl_length, bl_length] at hs
            simp only [strOf]
            omega
    · have hr : bl R = [0] := one_root hR (by rw [bl_length]; omega)
      have HF : Hid (Cm.wrR (bl base) p (bl n) = bl n) := by
        unfold Hid Cm.wrR
        rw [HFD.out, hr, Cm.ends_root]
        rfl
      clear hr
      go_wp2
      go_ret
      exact ⟨ret_str (by rw [HF.out]; apply bl_inj; rw [bl_mk (bl n)]), hk⟩

theorem refwrite_any (base : ByteArray) (p : Int) (n : ByteArray) (w : World) (hb : base.size ≤ maxLen) (hn : n.size ≤ maxLen) :
    Calls Try.prog 34 #[.string base, .int .i64 p, .string n] w fun e w' => e = .returned (.string (wrS base p n)) ∧ Keeps w w' := by
  cases h1 : Nm.okL (bl base)
  · have HF := hide (wrS_no (base := base) (p := p) (n := n) (by simp [Cm.wrOk, h1]))
    go_enter Try.func34, Try.ntmps34
    go_wp2_with fail
    refine (refcheck_any _ _ hb).mono ?_
    rintro e w1 ⟨rfl, k1⟩
    rw [h1]
    go_wp2
    go_ret
    exact ⟨ret_str HF.out.symm, k1⟩
  cases h2 : Nm.okL (bl n)
  · have HF := hide (wrS_no (base := base) (p := p) (n := n) (by simp [Cm.wrOk, h2]))
    go_enter Try.func34, Try.ntmps34
    go_wp2_with fail
    refine (refcheck_any _ _ hb).mono ?_
    rintro e w1 ⟨rfl, k1⟩
    rw [h1]
    go_wp2_with fail
    refine (refcheck_any _ _ hn).mono ?_
    rintro e w2 ⟨rfl, k2⟩
    rw [h2]
    go_wp2
    go_ret
    exact ⟨ret_str HF.out.symm, k1.trans k2⟩
  by_cases h3 : p < 0
  · have HF := hide (wrS_no (base := base) (p := p) (n := n) (by rw [← Bool.not_eq_true, wrOk_spec]; omega))
    go_enter Try.func34, Try.ntmps34
    go_wp2_with fail
    refine (refcheck_any _ _ hb).mono ?_
    rintro e w1 ⟨rfl, k1⟩
    rw [h1]
    go_wp2_with fail
    refine (refcheck_any _ _ hn).mono ?_
    rintro e w2 ⟨rfl, k2⟩
    rw [h2]
    go_wp2
    go_ret
    exact ⟨ret_str HF.out.symm, k1.trans k2⟩
  by_cases h4 : 16000 < p
  · have HF := hide (wrS_no (base := base) (p := p) (n := n) (by rw [← Bool.not_eq_true, wrOk_spec]; omega))
    go_enter Try.func34, Try.ntmps34
    go_wp2_with fail
    refine (refcheck_any _ _ hb).mono ?_
    rintro e w1 ⟨rfl, k1⟩
    rw [h1]
    go_wp2_with fail
    refine (refcheck_any _ _ hn).mono ?_
    rintro e w2 ⟨rfl, k2⟩
    rw [h2]
    go_wp2
    go_ret
    exact ⟨ret_str HF.out.symm, k1.trans k2⟩
  obtain ⟨q, rfl⟩ := Int.eq_ofNat_of_zero_le (show 0 ≤ p by omega)
  rw [wrS, if_pos ((wrOk_spec _ _ _).2 ⟨⟨h1, h2⟩, by omega, by omega⟩), Int.toNat_natCast, ← Cm.write_same _ _ _ h1 h2]
  exact refwrite_yes base q n w hb hn h1 h2 (by omega)
end Go.Proofs.Ythoominldliphaa
