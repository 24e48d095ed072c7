/- What comp.Write answers, for every input. -/
import Derived.Test.YthoominldliphaaCompWalk1
import Derived.Test.YthoominldliphaaCompMath2
import Derived.Test.YthoominldliphaaNameWalk4
import Derived.Test.YthoominldliphaaOctWalk3
import Derived.Deep.RegionHeld3
namespace Go.Proofs.Ythoominldliphaa
open Go.RowKit

def wrS (base : ByteArray) (p : Int) (n : ByteArray) : ByteArray := if Cm.wrOk (bl base) p (bl n) = true then ⟨(Cm.wrL (bl base) p.toNat (bl n)).toArray⟩ else ⟨#[]⟩
theorem wrS_no {base : ByteArray} {p : Int} {n : ByteArray} (h : Cm.wrOk (bl base) p (bl n) = false) : wrS base p n = ⟨#[]⟩ := by rw [wrS, if_neg (by rw [h]; decide)]
theorem wrOk_spec (b : List UInt8) (p : Int) (n : List UInt8) : Cm.wrOk b p n = true ↔ (Nm.okL b = true ∧ Nm.okL n = true) ∧ (0 ≤ p ∧ p ≤ 16000) := by simp [Cm.wrOk]
theorem bl_upS (n : ByteArray) (h : Nm.okL (bl n) = true) (hr : bl n ≠ [0]) : bl (upS n) = Nm.up1 (bl n) := by
  rw [upS, if_pos ⟨h, hr⟩, bl_from]; rfl
theorem in_shorter {n e : List UInt8} (hn : Nm.okL n = true) (he : e ≠ [0]) (h : Nm.inB n e = true) : e.length ≤ n.length := by
  rw [Cm.in_ends e he n hn, List.any_eq_true] at h
  obtain ⟨r, hr, hs⟩ := h
  rw [← Cm.same_length hs]
  exact (Cm.ends_less n hn).2 r hr

theorem putS_size (n k : Int) : (Oct.putS n k).size ≤ 4 := by
  by_cases h : Oct.putOk n k = true
  · have h2 := (Oct.putOk_spec n k).1 h
    rw [Oct.putS_yes n k h, ← bl_length, bl_mk, Oct.beL_length]
    omega
  · simp only [Bool.not_eq_true] at h
    rw [Oct.putS_no n k h]
    exact Nat.zero_le _

def WrRel (base n : ByteArray) (w : World) (s : Value) (wr : World) : Prop :=
  ∃ E : ByteArray, s = .string E ∧ Nm.okL (bl E) = true ∧ E.size ≤ base.size ∧ (Cm.ends (bl base)).find? (fun e => Nm.inB (bl n) e) = (Cm.ends (bl E)).find? (fun e => Nm.inB (bl n) e) ∧ Keeps w wr
theorem WrRel.mk {base n : ByteArray} {w wr : World} (E : ByteArray) (h1 : Nm.okL (bl E) = true) (h2 : E.size ≤ base.size) (h3 : (Cm.ends (bl base)).find? (fun e => Nm.inB (bl n) e) = (Cm.ends (bl E)).find? (fun e => Nm.inB (bl n) e)) (h4 : Keeps w wr) : WrRel base n w (.string E) wr := ⟨E, rfl, h1, h2, h3, h4⟩

theorem cut_str (n : ByteArray) (k m : Nat) (_ : k ≤ n.size) : n.extract 0 (n.size - k) ++ Oct.putS ((49152 + m : Nat) : Int) 2 = (⟨((bl n).take ((bl n).length - k) ++ Oct.beL (49152 + m) 2).toArray⟩ : ByteArray) ∨ ¬ m < 16384 := by
  by_cases hm : m < 16384
  · left
    apply bl_inj
    have hp : Oct.putOk ((49152 + m : Nat) : Int) 2 = true := by
      rw [Oct.putOk_spec]
      refine ⟨by omega, by omega, by omega, ?_⟩
      show ((49152 + m : Nat) : Int) < 256 ^ 2
      omega
    have e1 : bl (Oct.putS ((49152 + m : Nat) : Int) 2) = Oct.beL (49152 + m) 2 := by rw [Oct.putS_yes _ _ hp]; exact bl_mk _
    have e2 : bl (⟨((bl n).take ((bl n).length - k) ++ Oct.beL (49152 + m) 2).toArray⟩ : ByteArray) = (bl n).take ((bl n).length - k) ++ Oct.beL (49152 + m) 2 := bl_mk _
    rw [bl_append, e1, e2, bl_extract, bl_length, List.drop_zero, Nat.sub_zero]
  · exact .inr hm

set_option maxHeartbeats 1000000 in
set_option maxRecDepth 100000 in
theorem write_yes (base : ByteArray) (p : Nat) (n : ByteArray) (w : World) (hb : base.size ≤ maxLen) (hn : n.size ≤ maxLen) (h1 : Nm.okL (bl base) = true) (h2 : Nm.okL (bl n) = true) (hp : (p : Int) ≤ 16000) :
    Calls Try.prog 46 #[.string base, .int .i64 p, .string n] w fun e w' => e = .returned (.string ⟨(Cm.wrL (bl base) p (bl n)).toArray⟩) ∧ Keeps w w' := by
  have b255 : base.size ≤ 255 := by have := ((Nm.okL_spec _).1 h1).1; rw [bl_length] at this; exact this
  have n255 : n.size ≤ 255 := by have := ((Nm.okL_spec _).1 h2).1; rw [bl_length] at this; exact this
  go_enter Try.func46, Try.ntmps46
  go_wp2_with fail
  refine (check_any _ _ hb).mono ?_
  rintro e w1 ⟨rfl, hw⟩
  subst hw
  rw [h1]
  go_wp2_with fail
  refine (check_any _ _ hn).mono ?_
  rintro e w1 ⟨rfl, hw⟩
  subst hw
  rw [h2]
  go_wp2
  go_loopw [7] (fun s wr => WrRel base n w1 s wr) (fun s _ => (strOf s).size)
  case atStart => exact WrRel.mk base h1 (Nat.le_refl _) rfl (Keeps.refl _)
  case round =>
    obtain ⟨E, rfl, hE, hle, hfd, hk⟩ := hrel
    have HFD := hide hfd
    clear hfd
    have hEm : E.size ≤ maxLen := Nat.le_trans hle hb
    by_cases hr : bl E = [0]
    · have e1 : (E.toList == [0]) = true := by rw [toList_bl, hr]; rfl
      have HF : Hid (Cm.wrL (bl base) p (bl n) = bl n) := by
        unfold Hid Cm.wrL
        rw [HFD.out, hr, Cm.ends_root]
        rfl
      clear hr
      go_wp2
      go_ret
      exact ⟨ret_str (by rw [HF.out]; apply bl_inj; rw [bl_mk (bl n)]), hk⟩
    · have e1 : (E.toList == [0]) = false := by rw [toList_bl]; simpa using hr
      have hst := Cm.ends_step hE hr
      cases hin : Nm.inB (bl n) (bl E)
      · have HN : Hid ((Cm.ends (bl base)).find? (fun e => Nm.inB (bl n) e) = (Cm.ends (bl (upS E))).find? (fun e => Nm.inB (bl n) e)) := by
          unfold Hid
          rw [HFD.out, hst, List.find?_cons, hin, bl_upS E hE hr]
        have HU := hide (Nm.up1_ok hE hr)
        have HB := hide (bl_upS E hE hr)
        clear hr hst
        go_wp2_with fail
        refine (in_any _ _ _ hn hEm).mono ?_
        rintro e w2 ⟨rfl, k2⟩
        rw [hin]
        go_wp2_with fail
        refine (up_any _ _ hEm).mono ?_
        rintro e w3 ⟨rfl, hw⟩
        subst hw
        go_wp2
        go_roundw
        case rel =>
          have hs := HU.out.2.1
          rw [← HB.out, bl_length, bl_length] at hs
          exact WrRel.mk _ (by rw [HB.out]; exact HU.out.1) (by omega) HN.out (hk.trans k2)
        case measure =>
          have hs := HU.out.2.1
          rw [← HB.out, bl_length, bl_length] at hs
          simp only [strOf]
          omega
      · have HF : Hid (Cm.wrL (bl base) p (bl n) = Cm.cutTo (bl base) p (bl n) E.size) := by
          unfold Hid Cm.wrL
          rw [HFD.out, hst, List.find?_cons, hin, ← bl_length E]
        have hsh := in_shorter h2 hr hin
        rw [bl_length, bl_length] at hsh
        have HC := hide (cut_str n E.size (p + base.size - E.size) hsh)
        have hi : IntKind.i64.wrap ((n.size : Int) - (E.size : Int)) = (n.size : Int) - (E.size : Int) := by rw [IntKind.wrap_i64]; omega
        have r1 : ∀ w, (Instr.slice 9 (.string n) none (some (.int .i64 ((n.size : Int) - (E.size : Int)))) none).run Try.prog w = .ok (.string (n.extract 0 (n.size - E.size))) w := by
          intro w; rw [run_slice_string_to_if w _ n .i64 _ Try.underlying9, if_pos (by omega), show ((n.size : Int) - (E.size : Int)).toNat = n.size - E.size by omega]
        have hpl : IntKind.i64.wrap (49152 + ((p : Int) + (base.size : Int) - (E.size : Int))) = 49152 + ((p : Int) + (base.size : Int) - (E.size : Int)) := by rw [IntKind.wrap_i64]; omega
        have hA : (n.extract 0 (n.size - E.size)).size ≤ 255 := by rw [ByteArray.size_extract]; omega
        have hP := putS_size (49152 + ((p : Int) + (base.size : Int) - (E.size : Int))) 2
        generalize n.extract 0 (n.size - E.size) = A at *
        have r2 : ∀ w, (Op.stringOp .add A (Oct.putS (49152 + ((p : Int) + (base.size : Int) - (E.size : Int))) 2)).run Try.prog w = .ok (.string (A ++ Oct.putS (49152 + ((p : Int) + (base.size : Int) - (E.size : Int))) 2)) w := fun w => run_string_add_sum w _ _ (by omega)
        clear hr hst hA hP
        go_wp2_with fail
        refine (in_any _ _ _ hn hEm).mono ?_
        rintro e w2 ⟨rfl, k2⟩
        rw [hin]
        go_wp2
        go_region_held3 (fun _ => True) (trivial) ((go_at_call 33; refine (put_any _ _ _).mono ?_; rintro e w5 ⟨rfl, k5⟩))
        go_wp2
        go_ret
        refine ⟨ret_str ?_, (hk.trans k2).drew.trans k5⟩
        have e2 : (49152 + ((p : Int) + (base.size : Int) - (E.size : Int))) = ((49152 + (p + base.size - E.size) : Nat) : Int) := by omega
        rw [HF.out, e2, HC.out.resolve_right (by omega), Cm.cutTo, bl_length base, show 49152 + p + base.size - E.size = 49152 + (p + base.size - E.size) by omega]

theorem write_any (base : ByteArray) (p : Int) (n : ByteArray) (w : World) (hb : base.size ≤ maxLen) (hn : n.size ≤ maxLen) :
    Calls Try.prog 46 #[.string base, .int .i64 p, .string n] w fun e w' => e = .returned (.string (wrS base p n)) ∧ Keeps w w' := by
  cases h1 : Nm.okL (bl base)
  · have HF := hide (wrS_no (base := base) (p := p) (n := n) (by simp [Cm.wrOk, h1]))
    go_enter Try.func46, Try.ntmps46
    go_wp2_with (go_at_call 28; refine (check_any _ _ hb).mono ?_; rintro e w' ⟨rfl, rfl⟩)
    go_ret
    exact ⟨ret_str HF.out.symm, Keeps.refl _⟩
  cases h2 : Nm.okL (bl n)
  · have HF := hide (wrS_no (base := base) (p := p) (n := n) (by simp [Cm.wrOk, h2]))
    go_enter Try.func46, Try.ntmps46
    go_wp2_with fail
    refine (check_any _ _ hb).mono ?_
    rintro e wq ⟨rfl, hw⟩
    subst hw
    rw [h1]
    go_wp2_with fail
    refine (check_any _ _ hn).mono ?_
    rintro e wq ⟨rfl, hw⟩
    subst hw
    rw [h2]
    go_wp2
    go_ret
    exact ⟨ret_str HF.out.symm, Keeps.refl _⟩
  by_cases h3 : p < 0
  · have HF := hide (wrS_no (base := base) (p := p) (n := n) (by rw [← Bool.not_eq_true, wrOk_spec]; omega))
    go_enter Try.func46, Try.ntmps46
    go_wp2_with fail
    refine (check_any _ _ hb).mono ?_
    rintro e wq ⟨rfl, hw⟩
    subst hw
    rw [h1]
    go_wp2_with fail
    refine (check_any _ _ hn).mono ?_
    rintro e wq ⟨rfl, hw⟩
    subst hw
    rw [h2]
    go_wp2
    go_ret
    exact ⟨ret_str HF.out.symm, Keeps.refl _⟩
  by_cases h4 : 16000 < p
  · have HF := hide (wrS_no (base := base) (p := p) (n := n) (by rw [← Bool.not_eq_true, wrOk_spec]; omega))
    go_enter Try.func46, Try.ntmps46
    go_wp2_with fail
    refine (check_any _ _ hb).mono ?_
    rintro e wq ⟨rfl, hw⟩
    subst hw
    rw [h1]
    go_wp2_with fail
    refine (check_any _ _ hn).mono ?_
    rintro e wq ⟨rfl, hw⟩
    subst hw
    rw [h2]
    go_wp2
    go_ret
    exact ⟨ret_str HF.out.symm, Keeps.refl _⟩
  obtain ⟨q, rfl⟩ := Int.eq_ofNat_of_zero_le (show 0 ≤ p by omega)
  rw [wrS, if_pos ((wrOk_spec _ _ _).2 ⟨⟨h1, h2⟩, by omega, by omega⟩), Int.toNat_natCast]
  exact write_yes base q n w hb hn h1 h2 (by omega)
end Go.Proofs.Ythoominldliphaa
