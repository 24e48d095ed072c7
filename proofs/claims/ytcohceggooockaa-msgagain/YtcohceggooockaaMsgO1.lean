/- The letters of what is decoded again: up and ending. The condition: names. -/
import Derived.Test.YtcohceggooockaaMsgN
import Derived.Test.YtcohceggooockaaMsgW7
import Derived.Deep.DeepCutAuto
namespace Go.Proofs.Ytcohceggooockaa
open Go.RowKit

theorem up8_any (n : ByteArray) (w : World) (hn : n.size ≤ maxLen) :
    Calls Try.prog 81 #[.string n] w fun e w' => e = .returned (.string (upS n)) ∧ Keeps w w' := by
  have HU := hide (fun W => refup_any n W hn)
  generalize upS n = U at *
  generalize upOk n = O at *
  go_enter Try.func81, Try.ntmps81
  go_wp2_with fail
  refine (HU.out _).mono ?_
  rintro e w1 ⟨rfl, k1⟩
  go_wp2
  go_ret
  exact ⟨rfl, k1⟩

theorem upS_bl (n : ByteArray) (h : Nm.okL (bl n) = true) (hr : bl n ≠ [0]) : bl (upS n) = Nm.up1 (bl n) := by
  rw [upS, if_pos ⟨h, hr⟩, bl_extract, Nm.up1]
  rw [List.take_of_length_le (by rw [List.length_drop, bl_length]; omega)]
theorem root_size (n : ByteArray) (h : Nm.okL (bl n) = true) (hs : ¬ 1 < n.size) : bl n = [0] := by
  by_cases hr : bl n = [0]
  · exact hr
  · have h1 := (Nm.up1_ok h hr).2.1
    rw [bl_length] at h1
    omega
theorem not_root (n : ByteArray) (hs : 1 < n.size) : bl n ≠ [0] := by
  intro h
  have := congrArg List.length h
  rw [bl_length] at this
  simp at this
  omega
def hasEnd (base r : List UInt8) : Bool := (Cm.ends base).any (fun e => Nm.sameB r e)
theorem endW_some {base n r e : List UInt8} (h : (Cm.ends n).find? (fun r => (Cm.ends base).any (fun e => Nm.sameB r e)) = some r) (h2 : (Cm.ends base).find? (fun e => Nm.sameB r e) = some e) : Cm.endW base n = n.take (n.length - r.length) ++ e := by
  unfold Cm.endW
  rw [h]
  show (match (Cm.ends base).find? (fun e => Nm.sameB r e) with | some e => n.take (n.length - r.length) ++ e | none => n) = _
  rw [h2]
theorem endW_none {base n : List UInt8} (h : (Cm.ends n).find? (fun r => (Cm.ends base).any (fun e => Nm.sameB r e)) = none) : Cm.endW base n = n := by
  unfold Cm.endW
  rw [h]
def EndRel (base n : ByteArray) (w : World) (s : Value) (wr : World) : Prop :=
  ∃ rest : ByteArray, s = .string rest ∧ Nm.okL (bl rest) = true ∧ rest.size ≤ n.size ∧ (Cm.ends (bl n)).find? (fun r => (Cm.ends (bl base)).any (fun e => Nm.sameB r e)) = (Cm.ends (bl rest)).find? (fun r => (Cm.ends (bl base)).any (fun e => Nm.sameB r e)) ∧ Keeps w wr
def EndRel2 (base rest : ByteArray) (w : World) (s : Value) (wr : World) : Prop :=
  ∃ en : ByteArray, s = .string en ∧ Nm.okL (bl en) = true ∧ en.size ≤ base.size ∧ (Cm.ends (bl base)).find? (fun e => Nm.sameB (bl rest) e) = (Cm.ends (bl en)).find? (fun e => Nm.sameB (bl rest) e) ∧ Keeps w wr

set_option maxHeartbeats 4000000 in
set_option maxRecDepth 100000 in
theorem ending_any (n base : ByteArray) (w : World) (hn : Nm.okL (bl n) = true) (hb : Nm.okL (bl base) = true) :
    Calls Try.prog 68 #[.string n, .string base] w fun e w' => e = .returned (.string ⟨(Cm.endW (bl base) (bl n)).toArray⟩) ∧ Keeps w w' := by
  have n255 : n.size ≤ 255 := by have := ((Nm.okL_spec _).1 hn).1; rwa [bl_length] at this
  have b255 : base.size ≤ 255 := by have := ((Nm.okL_spec _).1 hb).1; rwa [bl_length] at this
  have HSome := hide (fun r e => @endW_some (bl base) (bl n) r e)
  have HNone := hide (@endW_none (bl base) (bl n))
  have hn0 := hide hn
  have hb0 := hide hb
  generalize hR : Cm.endW (bl base) (bl n) = R at *
  clear hR hn hb
  go_enter Try.func68, Try.ntmps68
  go_wp2_with fail
  go_loopw [5, 6] (fun s _ wr => EndRel base n w s wr) (fun s _ _ => (strOf s).size)
  case atStart => exact ⟨n, rfl, hn0.out, Nat.le_refl _, rfl, Keeps.refl _⟩
  case round =>
    obtain ⟨rest, rfl, hrok, hrs, HF, K⟩ := hrel
    replace hrok := hide hrok
    replace HF := hide HF
    replace K := hide K
    by_cases h1 : 1 < rest.size
    · have hroot := not_root rest h1
      have HST := hide (Cm.ends_step hrok.out hroot)
      have HUP := hide (upS_bl rest hrok.out hroot)
      have HU2 := hide (Nm.up1_ok hrok.out hroot)
      replace hroot := hide hroot
      have i1 : decide ((1 : Int) < (rest.size : Int)) = true := decide_eq_true (by omega)
      have i1b : (1 : Int) < (rest.size : Int) := by omega
      go_wp2_with fail
      go_loopw [6] (fun s wr' => EndRel2 base rest w s wr') (fun s _ => (strOf s).size)
      case atStart => exact ⟨base, rfl, hb0.out, Nat.le_refl _, rfl, K.out⟩
      case round =>
        clear K
        obtain ⟨en, rfl, heok, hes, HG, K⟩ := hrel
        replace heok := hide heok
        replace HG := hide HG
        replace K := hide K
        have HS := hide (fun W => refsame_any rest en W (by unfold maxLen; omega) (by unfold maxLen; omega))
        by_cases h2 : 1 < en.size
        · have hroot2 := not_root en h2
          have HST2 := hide (Cm.ends_step heok.out hroot2)
          have HUP2 := hide (upS_bl en heok.out hroot2)
          have HU3 := hide (Nm.up1_ok heok.out hroot2)
          replace hroot2 := hide hroot2
          have i2b : (1 : Int) < (en.size : Int) := by omega
          cases hsm : Nm.sameB (bl rest) (bl en)
          · rw [hsm] at HS
            have HUE := hide (fun W => up8_any en W (by unfold maxLen; omega))
            have HE : Hid (Nm.okL (bl (upS en)) = true ∧ (upS en).size + 2 ≤ en.size ∧ (Cm.ends (bl base)).find? (fun e => Nm.sameB (bl rest) e) = (Cm.ends (bl (upS en))).find? (fun e => Nm.sameB (bl rest) e)) := by
              refine ⟨by rw [HUP2.out]; exact HU3.out.1, ?_, ?_⟩
              · have := HU3.out.2.1
                rw [← HUP2.out, bl_length, bl_length] at this
                exact this
              · rw [HG.out, HST2.out, List.find?_cons, hsm, HUP2.out]
            generalize upS en = ue at *
            clear HUP2 HU3 HST2 HG
            go_wp2_with fail
            refine (HS.out _).mono ?_
            rintro e w1 ⟨rfl, k1⟩
            go_wp2_with fail
            refine (HUE.out _).mono ?_
            rintro e w2 ⟨rfl, k2⟩
            go_wp2_with fail
            go_roundw
            case rel => exact ⟨ue, rfl, HE.out.1, by have := HE.out.2.1; omega, HE.out.2.2, (K.out.trans k1).trans k2⟩
            case measure => have := HE.out.2.1; simp [strOf]; omega
          · rw [hsm] at HS
            have hfe : (Cm.ends (bl base)).find? (fun e => Nm.sameB (bl rest) e) = some (bl en) := by
              rw [HG.out, HST2.out, List.find?_cons, hsm]
            have hfr : (Cm.ends (bl n)).find? (fun r => (Cm.ends (bl base)).any (fun e => Nm.sameB r e)) = some (bl rest) := by
              rw [HF.out, HST.out, List.find?_cons]
              have : (Cm.ends (bl base)).any (fun e => Nm.sameB (bl rest) e) = true := by
                rw [List.any_eq_true]
                exact ⟨bl en, List.mem_of_find?_eq_some hfe, hsm⟩
              rw [this]
            have HE : Hid (n.extract 0 (n.size - rest.size) ++ en = ⟨R.toArray⟩) := by
              apply bl_inj
              have e1 := HSome.out _ _ hfr hfe
              have e2 : bl ⟨R.toArray⟩ = R := bl_mk _
              rw [e2, e1, bl_append, bl_extract, bl_length, bl_length]
              simp
            clear hfe hfr HG HST HST2 HUP HUP2 HU2 HU3 HF HSome HNone
            have q1 : IntKind.i64.wrap ((n.size : Int) - (rest.size : Int)) = ((n.size - rest.size : Nat) : Int) := by rw [IntKind.wrap_i64]; omega
            have q2 : n.size - rest.size ≤ n.size := Nat.sub_le _ _
            generalize n.size - rest.size = k at *
            have q3 : (k : Int) ≤ (n.size : Int) := by omega
            have q4 : (0 : Int) ≤ (k : Int) := by omega
            have g1 : ∀ w, (Op.stringOp .add (n.extract 0 k) en).run Try.prog w = .ok (.string (n.extract 0 k ++ en)) w := fun w => run_string_add_sum w _ _ (by rw [ByteArray.size_extract]; omega)
            go_wp2_with fail
            refine (HS.out _).mono ?_
            rintro e w1 ⟨rfl, k1⟩
            go_wp2_with fail
            go_ret
            exact ⟨ret_str HE.out, K.out.trans k1⟩
        · have hz := root_size en heok.out h2
          have hP : (Cm.ends (bl base)).any (fun e => Nm.sameB (bl rest) e) = false := by
            have : (Cm.ends (bl base)).find? (fun e => Nm.sameB (bl rest) e) = none := by
              rw [HG.out, hz, Cm.ends_root]
              rfl
            rw [List.any_eq_false]
            intro x hx
            exact List.find?_eq_none.1 this x hx
          have HE : Hid (Nm.okL (bl (upS rest)) = true ∧ (upS rest).size + 2 ≤ rest.size ∧ (Cm.ends (bl n)).find? (fun r => (Cm.ends (bl base)).any (fun e => Nm.sameB r e)) = (Cm.ends (bl (upS rest))).find? (fun r => (Cm.ends (bl base)).any (fun e => Nm.sameB r e))) := by
            refine ⟨by rw [HUP.out]; exact HU2.out.1, ?_, ?_⟩
            · have := HU2.out.2.1
              rw [← HUP.out, bl_length, bl_length] at this
              exact this
            · rw [HF.out, HST.out, List.find?_cons, hP, HUP.out]
          have HUE := hide (fun W => up8_any rest W (by unfold maxLen; omega))
          have i3 : decide ((1 : Int) < (en.size : Int)) = false := decide_eq_false (by omega)
          have i3b : ¬ (1 : Int) < (en.size : Int) := by omega
          generalize upS rest = ur at *
          clear hz hP HUP HU2 HST HF HG HS
          go_wp2_with fail
          refine (HUE.out _).mono ?_
          rintro e w2 ⟨rfl, k2⟩
          go_wp2_with fail
          go_roundw
          case rel => exact ⟨ur, rfl, HE.out.1, by have := HE.out.2.1; omega, HE.out.2.2, K.out.trans k2⟩
          case measure => have := HE.out.2.1; simp [strOf]; omega
    · have hz := root_size rest hrok.out h1
      have HE : Hid ((⟨R.toArray⟩ : ByteArray) = n) := by
        apply bl_inj
        rw [bl_mk]
        refine HNone.out ?_
        rw [HF.out, hz, Cm.ends_root]
        rfl
      have i3b : ¬ (1 : Int) < (rest.size : Int) := by omega
      clear hz HF
      go_wp2_with fail
      go_ret
      exact ⟨ret_str HE.out.symm, K.out⟩
end Go.Proofs.Ytcohceggooockaa
