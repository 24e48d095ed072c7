/- What the document's Labels, Check, Small, Low, Same answer, for every input. -/
import Derived.Test.YthoominldliphaaNameWalk2
import Derived.Test.YthoominldliphaaNameWalk3
import Derived.Test.YthoominldliphaaNameWalk4
namespace Go.Proofs.Ythoominldliphaa
open Go.RowKit

theorem labs_at_zero (n : ByteArray) (a : Nat) (h : a < n.size) (h0 : n[a] = 0) : Nm.labs (n.size + 1) ((bl n).drop a) = [] := by
  rw [bl_drop n a h, h0]; rfl
theorem labs_at_step (n : ByteArray) (a : Nat) (h : a < n.size) (h0 : n[a] ≠ 0) : Nm.labs (n.size + 1) ((bl n).drop a) = bl (n.extract (a + 1) (a + 1 + n[a].toNat)) :: Nm.labs (n.size + 1) ((bl n).drop (a + 1 + n[a].toNat)) := by
  rw [bl_drop n a h, Nm.labs_cons h0, List.drop_drop, bl_extract, show a + 1 + n[a].toNat - (a + 1) = n[a].toNat by omega]
  congr 1
  exact Nm.labs_fuel _ _ _ (by rw [List.length_drop, bl_length]; omega) (by rw [List.length_drop, bl_length]; omega)
theorem chk_at_cut (n : ByteArray) (a : Nat) (h : a < n.size) (h0 : n[a] ≠ 0) (hc : (n.size : Int) - a ≤ n[a].toNat) : Nm.chk (n.size + 1) ((bl n).drop a) = false := by
  by_cases h63 : (63 : Int) < n[a].toNat
  · exact chk_at_big n a h h0 h63
  · rw [chk_at_step n a h h0 h63, List.drop_of_length_le (by rw [bl_length]; omega)]
    rfl

/-- What comes of the document's Labels. -/
def LabelsEnd (n : ByteArray) (w : World) (e : Ending) (w' : World) : Prop :=
  ∃ v ls, e = .returned (.tuple #[v, .bool (Nm.okL (bl n))]) ∧ OwnsS w' w.heap.size v ls ∧ (Nm.okL (bl n) = true → ls = Nm.labelsL (bl n)) ∧ ls.length ≤ 255 ∧ Keeps w w'
theorem LabelsEnd.mk {n : ByteArray} {w w' : World} {v : Value} {b : Bool} (ls : List (List UInt8)) (hb : Nm.okL (bl n) = b) (h1 : OwnsS w' w.heap.size v ls) (h2 : Nm.okL (bl n) = true → ls = Nm.labelsL (bl n)) (h3 : ls.length ≤ 255) (h4 : Keeps w w') :
    LabelsEnd n w (.returned (.tuple #[v, .bool b])) w' := ⟨v, ls, by rw [hb], h1, h2, h3, h4⟩
theorem LabelsEnd.no {n : ByteArray} {w w' : World} (hb : Nm.okL (bl n) = false) (h4 : Keeps w w') :
    LabelsEnd n w (.returned (.tuple #[.slice none 0 0, .bool false])) w' := .mk [] hb (OwnsS.nil _ _) (fun h => by rw [hb] at h; simp at h) (by simp) h4

set_option maxHeartbeats 800000 in
theorem reflabels_any (n : ByteArray) (w : World) (hn : n.size ≤ maxLen) :
    Calls Try.prog 35 #[.string n] w fun e w' => LabelsEnd n w e w' := by
  unfold maxLen at hn
  by_cases hl0 : (n.size : Int) < 1
  · have HO : Hid (Nm.okL (bl n) = false) := by
      have : bl n = [] := List.length_eq_zero_iff.1 (by rw [bl_length]; omega)
      unfold Hid; rw [this]; rfl
    go_enter Try.func35, Try.ntmps35
    go_wp2
    go_ret2
    exact LabelsEnd.no HO.out (Keeps.refl _)
  by_cases hl : 255 < (n.size : Int)
  · have HO : Hid (Nm.okL (bl n) = false) := by simp [Hid, Nm.okL, bl_length]; omega
    go_enter Try.func35, Try.ntmps35
    go_wp2
    go_ret2
    exact LabelsEnd.no HO.out (Keeps.refl _)
  have hok : Nm.okL (bl n) = Nm.chk (n.size + 1) (bl n) := by simp [Nm.okL, bl_length]; omega
  have hlb : Nm.labelsL (bl n) = Nm.labs (n.size + 1) (bl n) := by rw [Nm.labelsL, bl_length]
  have HO := hide hok
  have HLB := hide hlb
  clear hok hlb
  go_enter Try.func35, Try.ntmps35
  go_wp2
  go_loopw [4, 5] (fun v i wr => ∃ (a : Nat) (ds : List (List UInt8)), a ≤ n.size ∧ ds.length ≤ a ∧ i = .int .i64 a ∧ OwnsS wr w.heap.size v ds ∧ Nm.chk (n.size + 1) (bl n) = Nm.chk (n.size + 1) ((bl n).drop a) ∧ Nm.labs (n.size + 1) (bl n) = ds ++ Nm.labs (n.size + 1) ((bl n).drop a) ∧ Below w.heap.size w wr) (fun _ i _ => n.size - (intOf i).toNat)
  case atStart => exact ⟨0, [], by omega, by simp, rfl, OwnsS.nil _ _, rfl, rfl, Below.refl _ _⟩
  case round =>
    obtain ⟨a, ds, ha, hda, rfl, hown, hchk, hlab, hbel⟩ := hrel
    have HC := hide hchk
    have HL := hide hlab
    clear hchk hlab
    have hsb := hbel.size
    by_cases hlt : a < n.size
    · have hc := UInt8.toNat_lt n[a]
      by_cases h0 : n[a] = 0
      · have z : ((n[a].toNat : Int) == 0) = true := by rw [h0]; rfl
        have E := hide (chk_at_zero n a hlt h0)
        have F := hide (labs_at_zero n a hlt h0)
        clear h0
        go_wp2
        go_ret2
        exact LabelsEnd.mk ds (by rw [HO.out, HC.out, E.out]) hown (fun _ => by rw [HLB.out, HL.out, F.out]; simp) (by omega) hbel
      · have z : ((n[a].toNat : Int) == 0) = false := by
          have := u8_ne.2 h0
          simpa [bne] using this
        by_cases h63 : (63 : Int) < n[a].toNat
        · have E := hide (chk_at_big n a hlt h0 h63)
          clear h0
          go_wp2
          go_ret2
          exact LabelsEnd.no (by rw [HO.out, HC.out, E.out]) hbel
        · by_cases hcut : (n.size : Int) - a ≤ n[a].toNat
          · have E := hide (chk_at_cut n a hlt h0 hcut)
            clear h0
            go_wp2
            go_ret2
            exact LabelsEnd.no (by rw [HO.out, HC.out, E.out]) hbel
          · have E := hide (chk_at_step n a hlt h0 h63)
            have F := hide (labs_at_step n a hlt h0)
            have hp := Nm.toNat_pos h0
            clear h0
            go_wp2_with (at_builtin; refine wpList_appS _ rfl _ _ rfl w.heap.size _ _ rfl (hown.alloc _) _ _ (bl (n.extract (a + 1) (a + 1 + n[a].toNat))) rfl ?c1 ?c2 ?c3 ?_)
            case c1 => first | exact cell_str _ _ _ | exact (sv_bl _).symm
            case c2 => omega
            case c3 => first | omega | (simp; omega)
            intro v' w2 hown' hb' _
            have hbel' := (hbel.alloc hsb _).trans hb'
            clear hb' hown hbel
            go_wp2
            go_roundw
            case rel => exact ⟨a + 1 + n[a].toNat, _, by omega, by simp; omega, by go_num, hown', by rw [HC.out, E.out, Nat.add_assoc], by rw [HL.out, F.out]; simp, hbel'⟩
            case measure => simp [intOf]; omega
    · have E := hide (chk_at_end n a hlt)
      have G : Hid (Nm.okL (bl n) = false) := by
        unfold Hid; rw [HO.out, HC.out, E.out, beq_eq_false_iff_ne]; omega
      go_wp2
      go_ret2
      exact LabelsEnd.no G.out hbel

theorem refcheck_any (n : ByteArray) (w : World) (hn : n.size ≤ maxLen) :
    Calls Try.prog 17 #[.string n] w fun e w' => e = .returned (.bool (Nm.okL (bl n))) ∧ Keeps w w' := by
  go_enter Try.func17, Try.ntmps17
  go_wp2_with fail
  refine (reflabels_any _ _ hn).mono ?_
  rintro e w1 ⟨v, ls, rfl, _, _, _, k1⟩
  go_wp2
  go_ret
  exact ⟨rfl, k1⟩

theorem u8wrap (x : Int) (h1 : 0 ≤ x) (h2 : x ≤ 255) : IntKind.u8.wrap x = x := by rw [IntKind.wrap_u8]; omega

set_option maxHeartbeats 800000 in
theorem small_any (n : ByteArray) (w : World) (hn : n.size ≤ maxLen) :
    Calls Try.prog 36 #[.string n] w fun e w' => e = .returned (.string ⟨(Nm.lowL (bl n)).toArray⟩) ∧ Keeps w w' := by
  unfold maxLen at hn
  have hcv2 := fun w => run_bytes_of_string (P := Try.prog) w 9 58 5 n Try.underlying9 Try.underlying58 Try.underlying5
  go_enter Try.func36, Try.ntmps36
  go_wp2
  clear hcv2
  generalize hcap : grownCap w n.size 0 5 = cap
  clear hcap
  go_loopw [4] (fun i wr => ∃ p : Nat, p ≤ n.size ∧ i = .int .i64 p ∧ Row wr w.heap.size (half (bl n) p) ∧ Below w.heap.size w wr) (fun i _ => n.size - (intOf i).toNat)
  case atStart => exact ⟨0, Nat.zero_le _, rfl, by rw [half_zero]; exact (Row.made w n cap).drew, ((Below.refl _ _).alloc (Nat.le_refl _) _).drew⟩
  case round =>
    obtain ⟨p, hp, rfl, hrow, hbel⟩ := hrel
    have hlen := half_length (bl n) p
    rw [bl_length] at hlen
    by_cases hlt : p < n.size
    · have hb := UInt8.toNat_lt n[p]
      have hcell : wr.cell? ⟨w.heap.size, p, none⟩ = some (.int .u8 (n[p].toNat : Int)) := by
        rw [hrow.cell p (by omega)]
        have e : (half (bl n) p)[p]'(by omega) = n[p] := by
          have := half_get (bl n) p p
          rw [List.getElem?_eq_getElem (by omega), List.getElem?_eq_getElem (by rw [bl_length]; exact hlt)] at this
          simp at this
          exact this
        rw [e]; rfl
      have hf := hrow.free p (by omega)
      by_cases hA : 65 ≤ n[p].toNat ∧ n[p].toNat ≤ 90
      · obtain ⟨hA1, hA2⟩ := hA
        have hst := half_set (bl n) p (by rw [bl_length]; exact hlt)
        have hR2 := hrow.set p (Nm.lowB n[p]) (by omega)
        rw [show Nm.lowB n[p] = Nm.lowB ((bl n)[p]'(by rw [bl_length]; exact hlt)) from rfl, hst] at hR2
        rw [show Nm.lowB ((bl n)[p]'(by rw [bl_length]; exact hlt)) = Nm.lowB n[p] from rfl, lowB_up n[p] hA1 hA2, show (n[p].toNat : Int) - 65 + 97 = (n[p].toNat : Int) + 32 by omega] at hR2
        have HR2 := hide hR2
        have h65 : (65 : Int) ≤ n[p].toNat := by omega
        have h90 : (n[p].toNat : Int) ≤ 90 := by omega
        clear hR2 hst hrow
        go_wp2
        go_roundw
        case rel => exact ⟨p + 1, by omega, by go_num, HR2.out, hbel.setCell (Nat.le_refl _) _⟩
        case measure => simp [intOf]; omega
      · have hk := half_keep (bl n) p (p + 1) (by omega) (fun i hi a b => by
          obtain rfl : i = p := by omega
          exact lowB_keep n[i] hA)
        have HK := hide hk
        have hR : ¬ ((65 : Int) ≤ n[p].toNat ∧ (n[p].toNat : Int) ≤ 90) := by omega
        clear hk hA
        by_cases h65 : (65 : Int) ≤ n[p].toNat
        · have h90 : ¬ (n[p].toNat : Int) ≤ 90 := fun e => hR ⟨h65, e⟩
          clear hR
          go_wp2
          go_roundw
          case rel => exact ⟨p + 1, by omega, by go_num, by rw [HK.out]; exact hrow, hbel⟩
          case measure => simp [intOf]; omega
        · clear hR
          go_wp2
          go_roundw
          case rel => exact ⟨p + 1, by omega, by go_num, by rw [HK.out]; exact hrow, hbel⟩
          case measure => simp [intOf]; omega
    · have hcv := hrow.conv n.size cap (by rw [half_length, bl_length])
      have HF := hide (half_all (bl n) p (by rw [bl_length]; omega))
      go_wp2
      go_ret
      exact ⟨ret_str (by rw [HF.out]), hbel⟩

theorem refsame_any (a b : ByteArray) (w : World) (ha : a.size ≤ maxLen) (hb : b.size ≤ maxLen) :
    Calls Try.prog 18 #[.string a, .string b] w fun e w' => e = .returned (.bool (Nm.sameB (bl a) (bl b))) ∧ Keeps w w' := by
  by_cases h1 : Nm.okL (bl a) = true
  · by_cases h2 : Nm.okL (bl b) = true
    · have HF : Hid (Nm.sameB (bl a) (bl b) = ((⟨(Nm.lowL (bl a)).toArray⟩ : ByteArray).toList == (⟨(Nm.lowL (bl b)).toArray⟩ : ByteArray).toList)) := by
        unfold Hid; rw [toList_bl, toList_bl, bl_mk (Nm.lowL (bl a)), bl_mk (Nm.lowL (bl b))]; simp [Nm.sameB, h1, h2]
      go_enter Try.func18, Try.ntmps18
      go_wp2_with fail
      refine (refcheck_any _ _ ha).mono ?_
      rintro e w1 ⟨rfl, k1⟩
      rw [h1]
      go_wp2_with fail
      refine (refcheck_any _ _ hb).mono ?_
      rintro e w2 ⟨rfl, k2⟩
      rw [h2]
      go_wp2_with fail
      refine (small_any _ _ ha).mono ?_
      rintro e w3 ⟨rfl, k3⟩
      generalize (⟨(Nm.lowL (bl a)).toArray⟩ : ByteArray) = A at *
      go_wp2_with fail
      refine (small_any _ _ hb).mono ?_
      rintro e w4 ⟨rfl, k4⟩
      generalize (⟨(Nm.lowL (bl b)).toArray⟩ : ByteArray) = B at *
      go_wp2
      go_ret
      exact ⟨ret_bool HF.out.symm, ((k1.trans k2).trans k3).trans k4⟩
    · have HF : Hid (Nm.sameB (bl a) (bl b) = false) := by simp [Nm.sameB, h2, Hid]
      simp only [Bool.not_eq_true] at h2
      go_enter Try.func18, Try.ntmps18
      go_wp2_with fail
      refine (refcheck_any _ _ ha).mono ?_
      rintro e w1 ⟨rfl, k1⟩
      rw [h1]
      go_wp2_with fail
      refine (refcheck_any _ _ hb).mono ?_
      rintro e w2 ⟨rfl, k2⟩
      rw [h2]
      go_wp2
      go_ret
      exact ⟨ret_bool HF.out.symm, k1.trans k2⟩
  · have HF : Hid (Nm.sameB (bl a) (bl b) = false) := by simp [Nm.sameB, h1, Hid]
    simp only [Bool.not_eq_true] at h1
    go_enter Try.func18, Try.ntmps18
    go_wp2_with fail
    refine (refcheck_any _ _ ha).mono ?_
    rintro e w1 ⟨rfl, k1⟩
    rw [h1]
    go_wp2
    go_ret
    exact ⟨ret_bool HF.out.symm, k1⟩
end Go.Proofs.Ythoominldliphaa
