/- NameBack answers true, for every input: the walk. -/
import Derived.Test.YtedelldhkjkghaaLNameUps
import Derived.Test.YtedelldhkjkghaaLNameLies
import Derived.Test.YtedelldhkjkghaaLNameSame
namespace Go.Proofs.Ytedelldhkjkghaa
open Go.RowKit

theorem join_back (n : ByteArray) (h : Nm.okL (bl n) = true) : Nm.joinOk (Nm.labelsL (bl n)) = true ∧ joinS (Nm.labelsL (bl n)) = n := by
  have hj := Nm.ok_join _ h
  refine ⟨hj.2, bl_inj ?_⟩
  rw [joinS, if_pos hj.2, bl_mk, hj.1]
theorem textS_size (n : ByteArray) : (textS n).size ≤ 1020 := by
  unfold textS
  split
  · rename_i h
    split
    · decide
    · have h1 := textL_length (Nm.labelsL (bl n))
      have h2 := (Nm.join_length (Nm.labelsL (bl n))).2
      rw [(Nm.ok_join _ h).1] at h2
      have h3 := ((Nm.okL_spec _).1 h).1
      rw [← bl_length, bl_mk]
      omega
  · decide
theorem not_dot (L : List (List UInt8)) (h : Nm.joinOk L = true) (x : List UInt8) (xs : List (List UInt8)) (hL : L = x :: xs) : Nm.textL L ≠ [46] := by
  intro e
  subst hL
  have h1 := Nm.split_text x xs
  rw [e, show Nm.splitO [46] = some [[], []] from rfl] at h1
  have h2 := Option.some.inj h1
  have h3 : x = [] := (List.cons.inj h2).1.symm
  subst h3
  simp [Nm.joinOk, Nm.sizeOk] at h
theorem labels_cons (n : ByteArray) (h : Nm.okL (bl n) = true) (hr : bl n ≠ [0]) : ∃ x xs, Nm.labelsL (bl n) = x :: xs := by
  have hu := Nm.up1_ok h hr
  exact ⟨_, _, hu.2.2⟩
/-- A name's text is read as it. -/
theorem parse_text (n : ByteArray) (h : Nm.okL (bl n) = true) : parseO (textS n) = some (bl n) := by
  have hsz := textS_size n
  by_cases hr : bl n = [0]
  · have e : textS n = ⟨#[46]⟩ := by unfold textS; rw [if_pos h, if_pos hr]
    rw [e, hr]
    rfl
  · obtain ⟨x, xs, hx⟩ := labels_cons n h hr
    have hj := Nm.ok_join _ h
    have e : bl (textS n) = Nm.textL (Nm.labelsL (bl n)) := by unfold textS; rw [if_pos h, if_neg hr, bl_mk]
    unfold parseO
    rw [e, if_neg (not_dot _ hj.2 x xs hx), if_neg (by omega), hx, Nm.split_text x xs]
    simp only [Option.bind_some]
    rw [← hx, if_pos hj.2, hj.1]
theorem in_self (l : List UInt8) (h : Nm.okL l = true) : Nm.inB l l = true := in_same l l (by rw [same_self]; exact h)
theorem in_up (l : List UInt8) (h : Nm.okL l = true) (hr : l ≠ [0]) : Nm.inB l (Nm.up1 l) = true := by
  have hu := Nm.up1_ok h hr
  cases hs : Nm.sameB l (Nm.up1 l)
  · rw [in_step l _ h hr hs]; exact in_self _ hu.1
  · exact in_same _ _ hs

set_option maxHeartbeats 2000000 in
theorem NameBack_walk (n : ByteArray) (w : World) (hn : n.size ≤ maxLen) :
    Calls Try.prog 6 #[.string n] w fun e w' => e = .returned (.bool true) ∧ Keeps w w' := by
  have hn' := hn
  unfold maxLen at hn'
  by_cases l1 : 600 < (n.size : Int)
  · go_enter Try.func6, Try.ntmps6
    go_wp2_with (go_at_call 10; refine (live2_any _).mono ?_; rintro e w3 ⟨rfl, k3⟩)
    go_ret
    exact ⟨rfl, by assumption⟩
  cases h : Nm.okL (bl n)
  · go_enter Try.func6, Try.ntmps6
    go_wp2_with (first | (go_at_call 10; refine (live2_any _).mono ?_; rintro e w3 ⟨rfl, k3⟩) | (go_at_call 14; refine (check_any _ _ hn).mono ?_; rintro e w' ⟨rfl, rfl⟩))
    go_ret
    exact ⟨rfl, by assumption⟩
  have hlo : labelsOf n = Nm.labelsL (bl n) := by simp [labelsOf, h]
  have HLO := hide hlo
  obtain ⟨j1, j2⟩ := join_back n h
  have J1 := hide j1
  have J2 := hide j2
  have p1 : parseOk (textS n) = true := by unfold parseOk; rw [parse_text n h]; rfl
  have p2 : parseS (textS n) = n := by apply bl_inj; unfold parseS; rw [parse_text n h, bl_mk]; rfl
  have hts : (textS n).size ≤ maxLen := by have := textS_size n; unfold maxLen; omega
  have hls : (lowS n).size ≤ maxLen := by have := lowS_size n; omega
  have s1 : Nm.sameB (bl n) (bl (lowS n)) = true := by rw [lowS_yes n h]; simp [Nm.sameB, h, Nm.ok_low, Nm.lowL_twice]
  have s2 : lowS (lowS n) = lowS n := by
    apply bl_inj; rw [lowS_yes (lowS n) (lowS_ok n h), lowS_yes n h, Nm.lowL_twice]
  have s3 : (((lowS n).size : Int) != (n.size : Int)) = false := by
    have : (lowS n).size = n.size := by rw [← bl_length, lowS_yes n h, Nm.lowL_length, bl_length]
    rw [this]; simp
  have hlen : (Nm.labelsL (bl n)).length ≤ 255 := by
    have h1 := (Nm.join_length (Nm.labelsL (bl n))).1
    rw [(Nm.ok_join _ h).1] at h1
    have := ((Nm.okL_spec _).1 h).1
    omega
  have hsz : ∀ x ∈ Nm.labelsL (bl n), x.length ≤ maxLen := fun x hx => by have := label_short n h x hx; unfold maxLen; omega
  have HSZ := hide hsz
  have S2 := hide s2
  have P2 := hide p2
  clear hlo j1 j2 hsz s2 p2
  go_enter Try.func6, Try.ntmps6
  go_wp2_with fail
  refine (check_any _ _ hn).mono ?_
  rintro e w1 ⟨rfl, hw⟩
  subst hw
  rw [h]
  go_wp2_with fail
  refine (labels_any _ _ hn).mono ?_
  rintro e w2 ⟨v, rfl, hown, k2⟩
  rw [HLO.out] at hown
  have hrd := hown.read
  clear hown
  have hrd' := hrd
  obtain ⟨a, cap, hv⟩ := hrd.len
  subst hv
  have HRD := hide hrd'
  clear hrd hrd'
  go_wp2_with fail
  refine (join_any _ _ _ HRD.out (by omega) HSZ.out).mono ?_
  rintro e w3 ⟨rfl, k3⟩
  rw [J1.out, J2.out]
  go_wp2_with fail
  refine (text_any _ _ hn).mono ?_
  rintro e w4 ⟨rfl, k4⟩
  go_wp2_with fail
  refine (parse_any _ _ hts).mono ?_
  rintro e w5 ⟨rfl, k5⟩
  rw [p1, P2.out]
  go_wp2_with fail
  refine (low_any _ _ hn).mono ?_
  rintro e w6 ⟨rfl, k6⟩
  go_wp2_with fail
  refine (same_any _ _ _ hn hls).mono ?_
  rintro e w7 ⟨rfl, k7⟩
  rw [s1]
  go_wp2_with fail
  refine (low_any _ _ hls).mono ?_
  rintro e w8 ⟨rfl, k8⟩
  rw [S2.out]
  have KK := hide ((((((k2.trans k3).trans k4).trans k5).trans k6).trans k7).trans k8)
  clear k2 k3 k4 k5 k6 k7 k8 p1 s1 hts hls
  generalize lowS n = LW at *
  generalize textS n = TX at *
  go_wp2
  go_loopw [9, 10] (fun u i wr => ∃ (m : ByteArray) (j : Nat), u = .string m ∧ i = .int .i64 j ∧ Nm.okL (bl m) = true ∧ m.size ≤ n.size ∧ Nm.inB (bl n) (bl m) = true ∧ (Nm.labelsL (bl m)).length + j = (Nm.labelsL (bl n)).length ∧ Keeps w1 wr) (fun u _ _ => (strOf u).size)
  case atStart => exact ⟨n, 0, rfl, rfl, h, Nat.le_refl _, in_self _ h, rfl, KK.out⟩
  case round =>
    obtain ⟨m, j, rfl, rfl, hm, hms, hin, hcnt, k3⟩ := hrel
    have hmm : m.size ≤ maxLen := by omega
    have HCN := hide hcnt
    clear hcnt
    by_cases hr : bl m = [0]
    · have hz : (Nm.labelsL (bl m)).length = 0 := by rw [hr]; rfl
      have hge : ¬ (j : Int) < ((Nm.labelsL (bl n)).length : Int) := by have := HCN.out; omega
      have e2 : (m.toList == [0]) = true := by rw [toList_bl, hr]; rfl
      clear hz hr
      go_wp2_with fail
      refine (in_any _ _ _ hn hmm).mono ?_
      rintro e w9 ⟨rfl, k9⟩
      rw [hin]
      go_wp2_with fail
      refine (live2_any _).mono ?_
      rintro e w10 ⟨rfl, k10⟩
      go_wp2
      go_ret
      exact ⟨rfl, (k3.trans k9).trans k10⟩
    · obtain ⟨u1, u2, u3, u4, u5, u6, u7⟩ := up_facts m hm hr
      have hlt : (j : Int) < ((Nm.labelsL (bl n)).length : Int) := by have := HCN.out; omega
      have hum : (upS m).size ≤ maxLen := by omega
      have hj : (j : Int) ≤ 255 := by omega
      have HIN : Hid (Nm.inB (bl n) (bl (upS m)) = true) := by
        obtain ⟨hp, q1, _⟩ := ok_parts m hm hr
        have e1 : upS m = m.extract (1 + m[0].toNat) m.size := by simp [upS, hm, hr, q1]
        have e3 : bl (upS m) = Nm.up1 (bl m) := by rw [e1]; exact up1_from m hp
        unfold Hid
        rw [e3]
        exact in_trans _ _ _ hin (in_up _ hm hr)
      have hlu : labelsOf (upS m) = Nm.labelsL (bl (upS m)) := by simp [labelsOf, u3]
      have HLU := hide hlu
      have U7 := hide u7
      clear hr u7 hlu u2 u4 u6
      go_wp2_with fail
      refine (in_any _ _ _ hn hmm).mono ?_
      rintro e w9 ⟨rfl, k9⟩
      rw [hin]
      go_wp2_with fail
      refine (up_any _ _ hmm).mono ?_
      rintro e w10 ⟨rfl, hw⟩
      subst hw
      rw [u1]
      generalize hU : upS m = U at *
      clear hU
      go_wp2_with fail
      refine (labels_any _ _ hum).mono ?_
      rintro e w11 ⟨v2, rfl, hown2, k11⟩
      rw [HLU.out] at hown2
      obtain ⟨a2, cap2, hv2⟩ := (hown2.read).len
      subst hv2
      clear hown2
      have hle2 : ((Nm.labelsL (bl U)).length : Int) ≤ 255 := by have h1 := HCN.out; have h2 := U7.out; omega
      have hne : (((Nm.labelsL (bl U)).length : Int) != ((Nm.labelsL (bl n)).length : Int) - 1 - (j : Int)) = false := by
        have h1 := HCN.out
        have h2 := U7.out
        rw [show ((Nm.labelsL (bl n)).length : Int) - 1 - (j : Int) = ((Nm.labelsL (bl U)).length : Int) by omega]
        simp
      go_wp2
      go_roundw
      case rel => exact ⟨U, j + 1, rfl, by go_num, u3, by omega, HIN.out, by have h1 := HCN.out; have h2 := U7.out; omega, (k3.trans k9).trans k11⟩
      case measure => simpa [strOf] using u5
end Go.Proofs.Ytedelldhkjkghaa
