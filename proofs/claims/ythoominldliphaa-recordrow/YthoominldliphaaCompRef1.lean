/- What the document's Read of layer 4 answers, for every input. -/
import Derived.Test.YthoominldliphaaCompWalk1
import Derived.Test.YthoominldliphaaStrs
namespace Go.Proofs.Ythoominldliphaa
open Go.RowKit

theorem bad_any (e : Int) (w : World) : Calls Try.prog 42 #[.int .i64 e] w fun x w' => x = .returned (.tuple #[.string ⟨#[]⟩, .int .i64 0, .int .i64 e]) ∧ w' = w := by
  go_enter Try.func42, Try.ntmps42
  go_wp2
  go_ret3
  exact ⟨rfl, rfl⟩

def nxI (nx : Nat) : Int := if nx = 0 then -1 else nx
def RfRel (s : ByteArray) (R : Cm.RR) (a o nx q : Value) : Prop :=
  ∃ (p q' nx' : Nat) (O : ByteArray), a = .int .i64 p ∧ q = .int .i64 q' ∧ nx = .int .i64 (nxI nx') ∧ o = .string O ∧ O.size ≤ 254 ∧ (p : Int) ≤ 9223372036854775807 ∧ nx' ≤ s.size ∧ R = Cm.rdm (bl s) p q' nx' (bl O)
theorem RfRel.mk {s : ByteArray} {R : Cm.RR} (p q nx : Nat) (O : ByteArray) (h2 : O.size ≤ 254) (h3 : (p : Int) ≤ 9223372036854775807) (h4 : nx ≤ s.size) (h5 : R = Cm.rdm (bl s) p q nx (bl O)) :
    RfRel s R (.int .i64 p) (.string O) (.int .i64 (nxI nx)) (.int .i64 q) := ⟨p, q, nx, O, rfl, rfl, rfl, rfl, h2, h3, h4, h5⟩
def rfMu (o q : Value) : Nat := (intOf q).toNat * 256 + (255 - (strOf o).size)

set_option maxHeartbeats 2000000 in
set_option maxRecDepth 100000 in
theorem refread_nat (s : ByteArray) (p0 : Nat) (R : Cm.RR) (w : World) (hs : s.size ≤ maxLen) (hp0 : (p0 : Int) ≤ 9223372036854775807) (hR : Hid (R = Cm.rdm (bl s) p0 p0 0 [])) :
    Calls Try.prog 24 #[.string s, .int .i64 p0] w fun e w' => e = .returned (.tuple #[.string (rrS R), .int .i64 R.next, .int .i64 R.e]) ∧ w' = w := by
  have hs' := hs
  unfold maxLen at hs'
  go_enter Try.func24, Try.ntmps24
  go_wp2
  go_loop [1, 7, 8, 9] (fun a o nx q => RfRel s R a o nx q) (fun _ o _ q => rfMu o q)
  case atStart => exact RfRel.mk p0 p0 0 ⟨#[]⟩ (by decide) hp0 (by omega) hR.out
  case round =>
    obtain ⟨p, q, nx, O, rfl, rfl, rfl, rfl, hlen, hp, hnx, hrd⟩ := hrel
    have HR := hide hrd
    clear hrd
    by_cases hlt : p < s.size
    · obtain ⟨g1, g2⟩ := get1 s p hlt
      have hat := bl_at s p hlt
      have hc := UInt8.toNat_lt s[p]
      generalize hcd : s[p] = c at *
      have HCD := hide hcd
      clear hcd
      by_cases h0 : c = 0
      · have g3 : Oct.getN s p 1 = 0 := by rw [g2, h0]; rfl
        have HF : Hid (R = ⟨bl O ++ [0], if nx = 0 then p + 1 else nx, 0⟩) := by
          unfold Hid; rw [HR.out]; exact Cm.rdm_zero (by rw [hat, h0])
        have HO : Hid (O ++ ⟨#[0]⟩ = ⟨(bl O ++ [0]).toArray⟩) := by
          unfold Hid; apply bl_inj; rw [bl_append, bl_mk]; rfl
        clear g2 h0 hat
        by_cases hz : nx = 0
        · rw [if_pos hz] at HF
          have hz2 : nxI nx = -1 := if_pos hz
          go_wp2_with (go_at_call 26; refine (refget_any _ _ _ _ hs hp).mono ?_; rintro e w' ⟨rfl, rfl⟩)
          go_ret3
          exact ⟨by rw [HF.out]; exact ret_str_int_int HO.out (by simp) rfl, rfl⟩
        · rw [if_neg hz] at HF
          have hz2 : nxI nx = nx := if_neg hz
          go_wp2_with (go_at_call 26; refine (refget_any _ _ _ _ hs hp).mono ?_; rintro e w' ⟨rfl, rfl⟩)
          go_ret3
          exact ⟨by rw [HF.out]; exact ret_str_int_int HO.out rfl rfl, rfl⟩
      · have hpos := Nm.toNat_pos h0
        have hz : ((c.toNat : Int) == 0) = false := by simp; omega
        have HAT := hide hat
        clear hat
        by_cases h63 : (c.toNat : Int) ≤ 63
        · by_cases hfit : p + 1 + c.toNat ≤ s.size
          · obtain ⟨t1, t2, t3⟩ := take1 s p c.toNat hfit
            have t4 := t1
            rw [Int.add_comm] at t2 t3 t4
            have HT2 := hide t2
            clear t1 t2
            have hsz : (O ++ Oct.takeS s p ((c.toNat : Int) + 1)).size = O.size + (1 + c.toNat) := by rw [ByteArray.size_append, t3]
            have HSZ := hide hsz
            by_cases hlong : 254 < (bl O).length + (1 + c.toNat)
            · have HF : Hid (R = Cm.bad 3) := by
                unfold Hid; rw [HR.out]; exact Cm.rdm_long HAT.out h0 (by omega) (by rw [bl_length]; exact hfit) hlong
              rw [bl_length] at hlong
              clear h0
              go_wp2_with (first | (go_at_call 26; refine (refget_any _ _ _ _ hs hp).mono ?_; rintro e w' ⟨rfl, rfl⟩) | (go_at_call 25; refine (reftake_any _ _ _ _ hs hp).mono ?_; rintro e w' ⟨rfl, rfl⟩) | (go_at_call 42; refine (bad_any _ _).mono ?_; rintro e w' ⟨rfl, rfl⟩))
              go_ret3
              exact ⟨by rw [HF.out]; rfl, rfl⟩
            · have HF : Hid (R = Cm.rdm (bl s) (p + 1 + c.toNat) q nx (bl O ++ ((bl s).drop p).take (1 + c.toNat))) := by
                unfold Hid; rw [HR.out]; exact Cm.rdm_label HAT.out h0 (by omega) (by rw [bl_length]; exact hfit) hlong
              rw [bl_length] at hlong
              clear h0
              go_wp2_with (first | (go_at_call 26; refine (refget_any _ _ _ _ hs hp).mono ?_; rintro e w' ⟨rfl, rfl⟩) | (go_at_call 25; refine (reftake_any _ _ _ _ hs hp).mono ?_; rintro e w' ⟨rfl, rfl⟩))
              go_round
              case rel =>
                have e1 : ((p : Int) + (c.toNat : Int) + 1) = ((p + 1 + c.toNat : Nat) : Int) := by omega
                rw [e1]
                refine RfRel.mk _ _ _ _ (by rw [HSZ.out]; omega) (by omega) hnx ?_
                rw [bl_append, HT2.out]
                exact HF.out
              case measure =>
                simp only [rfMu, strOf, HSZ.out]
                omega
          · have HF : Hid (R = Cm.bad 2) := by
              unfold Hid; rw [HR.out]; exact Cm.rdm_short HAT.out h0 (by omega) (by rw [bl_length]; exact hfit)
            have t1 := take1_no s p c.toNat hfit
            rw [Int.add_comm] at t1
            clear h0
            go_wp2_with (first | (go_at_call 26; refine (refget_any _ _ _ _ hs hp).mono ?_; rintro e w' ⟨rfl, rfl⟩) | (go_at_call 25; refine (reftake_any _ _ _ _ hs hp).mono ?_; rintro e w' ⟨rfl, rfl⟩) | (go_at_call 42; refine (bad_any _ _).mono ?_; rintro e w' ⟨rfl, rfl⟩))
            go_ret3
            exact ⟨by rw [HF.out]; rfl, rfl⟩
        · clear h0
          by_cases h192 : (192 : Int) ≤ c.toNat
          · by_cases hcut : p + 1 < s.size
            · have hd := UInt8.toNat_lt s[p + 1]
              have hat2 := bl_at s (p + 1) hcut
              obtain ⟨k1, k2⟩ := get2 s p hcut
              have hm : Oct.getN s p 2 = 49152 + (((c.toNat - 192) * 256 + s[p + 1].toNat : Nat) : Int) := by rw [k2, HCD.out]; omega
              clear k2
              by_cases hq : q ≤ (c.toNat - 192) * 256 + s[p + 1].toNat
              · have HF : Hid (R = Cm.bad 3) := by
                  unfold Hid; rw [HR.out]; exact Cm.rdm_pbad HAT.out (by omega) hat2 hq
                generalize (c.toNat - 192) * 256 + s[p + 1].toNat = m at *
                have hm2 := Oct.getN_bound s p 2
                have hq2 : (q : Int) ≤ Oct.getN s p 2 - 49152 := by omega
                have HM := hide hm
                clear hm hat2
                go_wp2_with (first | (go_at_call 26; refine (refget_any _ _ _ _ hs hp).mono ?_; rintro e w' ⟨rfl, rfl⟩) | (go_at_call 42; refine (bad_any _ _).mono ?_; rintro e w' ⟨rfl, rfl⟩))
                go_ret3
                exact ⟨by rw [HF.out]; rfl, rfl⟩
              · have HF : Hid (R = Cm.rdm (bl s) ((c.toNat - 192) * 256 + s[p + 1].toNat) ((c.toNat - 192) * 256 + s[p + 1].toNat) (if nx = 0 then p + 2 else nx) (bl O)) := by
                  unfold Hid; rw [HR.out]; exact Cm.rdm_ptr HAT.out (by omega) hat2 hq
                have hm3 : Oct.getN s p 2 - 49152 ≤ 100000 := by omega
                generalize (c.toNat - 192) * 256 + s[p + 1].toNat = m at *
                have hm2 := Oct.getN_bound s p 2
                have hq2 : ¬ (q : Int) ≤ Oct.getN s p 2 - 49152 := by omega
                have HM : Hid (Oct.getN s p 2 - 49152 = (m : Int)) := by unfold Hid; omega
                clear hm hat2
                by_cases hz : nx = 0
                · rw [if_pos hz] at HF
                  have hz2 : nxI nx = -1 := if_pos hz
                  have e1 : Hid (((p : Int) + 2) = nxI (p + 2)) := (if_neg (by omega)).symm
                  go_wp2_with (go_at_call 26; refine (refget_any _ _ _ _ hs hp).mono ?_; rintro e w' ⟨rfl, rfl⟩)
                  go_round
                  case rel =>
                    rw [HM.out, e1.out]
                    exact RfRel.mk m m (p + 2) O hlen (by have := HM.out; omega) (by omega) HF.out
                  case measure => simp only [rfMu, strOf, intOf, HM.out]; omega
                · rw [if_neg hz] at HF
                  have hz2 : nxI nx = nx := if_neg hz
                  go_wp2_with (go_at_call 26; refine (refget_any _ _ _ _ hs hp).mono ?_; rintro e w' ⟨rfl, rfl⟩)
                  go_round
                  case rel =>
                    rw [HM.out, ← hz2]
                    exact RfRel.mk m m nx O hlen (by have := HM.out; omega) hnx HF.out
                  case measure => simp only [rfMu, strOf, intOf, HM.out]; omega
            · have HF : Hid (R = Cm.bad 2) := by
                unfold Hid; rw [HR.out]; exact Cm.rdm_pcut HAT.out (by omega) (by rw [bl_length]; omega)
              have k1 := get2_no s p (by omega)
              go_wp2_with (first | (go_at_call 26; refine (refget_any _ _ _ _ hs hp).mono ?_; rintro e w' ⟨rfl, rfl⟩) | (go_at_call 42; refine (bad_any _ _).mono ?_; rintro e w' ⟨rfl, rfl⟩))
              go_ret3
              exact ⟨by rw [HF.out]; rfl, rfl⟩
          · have HF : Hid (R = Cm.bad 3) := by
              unfold Hid; rw [HR.out]; exact Cm.rdm_mid HAT.out (by omega) (by omega)
            go_wp2_with (first | (go_at_call 26; refine (refget_any _ _ _ _ hs hp).mono ?_; rintro e w' ⟨rfl, rfl⟩) | (go_at_call 42; refine (bad_any _ _).mono ?_; rintro e w' ⟨rfl, rfl⟩))
            go_ret3
            exact ⟨by rw [HF.out]; rfl, rfl⟩
    · have g1 := get1_no s p (.inr (by omega))
      have HF : Hid (R = Cm.bad 2) := by
        unfold Hid; rw [HR.out]; exact Cm.rdm_cut (by rw [bl_length]; omega)
      go_wp2_with (first | (go_at_call 26; refine (refget_any _ _ _ _ hs hp).mono ?_; rintro e w' ⟨rfl, rfl⟩) | (go_at_call 42; refine (bad_any _ _).mono ?_; rintro e w' ⟨rfl, rfl⟩))
      go_ret3
      exact ⟨by rw [HF.out]; rfl, rfl⟩

theorem refread_neg (s : ByteArray) (p : Int) (w : World) (hs : s.size ≤ maxLen) (hp : p < 0) :
    Calls Try.prog 24 #[.string s, .int .i64 p] w fun e w' => e = .returned (.tuple #[.string ⟨#[]⟩, .int .i64 0, .int .i64 2]) ∧ w' = w := by
  have h1 := get1_no s p (.inl hp)
  go_enter Try.func24, Try.ntmps24
  go_wp2
  refine wp_loop_rounds 1 ?_
  rw [rounds_succ]
  go_wp2_with (first | (go_at_call 26; refine (refget_any _ _ _ _ hs (by omega)).mono ?_; rintro e w' ⟨rfl, rfl⟩) | (go_at_call 42; refine (bad_any _ _).mono ?_; rintro e w' ⟨rfl, rfl⟩))
  go_ret3
  exact ⟨rfl, rfl⟩
theorem refread_any (s : ByteArray) (p : Int) (w : World) (hs : s.size ≤ maxLen) (hp : p ≤ 9223372036854775807) :
    Calls Try.prog 24 #[.string s, .int .i64 p] w fun e w' => e = .returned (.tuple #[.string (rrS (Cm.readL (bl s) p)), .int .i64 (Cm.readL (bl s) p).next, .int .i64 (Cm.readL (bl s) p).e]) ∧ w' = w := by
  by_cases h : 0 ≤ p
  · obtain ⟨n, rfl⟩ := Int.eq_ofNat_of_zero_le h
    exact refread_nat s n _ w hs hp (hide (by rw [Cm.readL, if_pos h, Int.toNat_natCast]))
  · rw [Cm.readL, if_neg h]
    exact refread_neg s p w hs (by omega)
end Go.Proofs.Ythoominldliphaa
