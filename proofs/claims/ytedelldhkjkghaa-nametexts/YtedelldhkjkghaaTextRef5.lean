/- What the document's Parse answers, for every input: the walk. -/
import Derived.Test.YtedelldhkjkghaaTextRef4
namespace Go.Proofs.Ytedelldhkjkghaa
open Go.RowKit

set_option maxHeartbeats 1000000 in
theorem refparse_any (t : ByteArray) (w : World) (ht : t.size ≤ maxLen) :
    Calls Try.prog 26 #[.string t] w fun e w' => e = .returned (.tuple #[.string (parseS t), .bool (parseOk t)]) ∧ Keeps w w' := by
  unfold maxLen at ht
  by_cases h0 : bl t = [46]
  · have E1 : Hid (parseS t = ⟨#[0]⟩) := by simp [Hid, parseS, parseO, h0]
    have E2 : Hid (parseOk t = true) := by simp [Hid, parseOk, parseO, h0]
    have z : (t.toList == [46]) = true := by rw [toList_bl, h0]; rfl
    clear h0
    go_enter Try.func26, Try.ntmps26
    go_wp2
    go_ret2
    exact ⟨ret_str_bool E1.out.symm E2.out.symm, Keeps.refl _⟩
  have z : (t.toList == [46]) = false := by rw [toList_bl]; simpa using h0
  by_cases hl : 1100 < (t.size : Int)
  · have E1 : Hid (parseS t = ⟨#[]⟩) := by simp only [Hid, parseS, parseO, h0, if_false]; rw [if_pos (by omega)]; rfl
    have E2 : Hid (parseOk t = false) := by simp only [Hid, parseOk, parseO, h0, if_false]; rw [if_pos (by omega)]; rfl
    clear h0
    go_enter Try.func26, Try.ntmps26
    go_wp2
    go_ret2
    exact ⟨ret_str_bool E1.out.symm E2.out.symm, Keeps.refl _⟩
  have hts : t.size ≤ 1100 := by omega
  have H0 := hide h0
  have hp := Nm.spa_pos [] (bl t)
  obtain ⟨hb1, hb2⟩ := spa_bounds t
  obtain ⟨hr1, hr2⟩ := refL_bounds t
  have HB2 := hide hb2
  have HR1 := hide hr1
  have HR2 : Hid (∀ x ∈ refL t, x.length ≤ maxLen) := fun x hx => by have := hr2 x hx; unfold maxLen; omega
  obtain ⟨ls, hls⟩ : ∃ ls, ls = Nm.spa [] (bl t) := ⟨_, rfl⟩
  have HL : Hid (ls.map Nm.labL = refL t) := by unfold Hid refL; rw [hls]
  rw [← hls] at hp hb1 HB2
  have HLS := hide hls
  clear h0 hb2 hr1 hr2 hls
  go_enter Try.func26, Try.ntmps26
  go_wp2_with fail
  refine (refsplit_any _ _ hts).mono ?_
  rintro e w1 ⟨v, rfl, hown, k1⟩
  rw [← HLS.out] at hown
  obtain ⟨g, cap, hv⟩ := hown.shape hp
  subst hv
  have HO := hide hown
  clear hown
  go_wp2
  go_loopw [5] (fun i wr => ∃ j : Nat, j ≤ ls.length ∧ i = .int .i64 j ∧ OwnsS wr w.heap.size (.slice (some ⟨g, 0, none⟩) ls.length cap) (halfS ls j) ∧ Below w.heap.size w wr) (fun i _ => ls.length - (intOf i).toNat)
  case atStart => exact ⟨0, Nat.zero_le _, rfl, HO.out, k1⟩
  case round =>
    obtain ⟨j, hj, rfl, hown, hbel⟩ := hrel
    clear k1 HO
    have hsb := hbel.size
    by_cases hlt : j < ls.length
    · have i1 : (j : Int) < (ls.length : Int) := by omega
      obtain ⟨X, hX⟩ : ∃ X : ByteArray, bl X = ls[j] := ⟨⟨ls[j].toArray⟩, bl_mk _⟩
      have hXs : X.size ≤ 1100 := by
        have := HB2.out ls[j] (List.getElem_mem hlt)
        rw [← bl_length, hX]; omega
      obtain ⟨hc, hf, hg⟩ := hown.at (halfS_len ls j) j hlt _ (halfS_get ls j hlt)
      rw [← hX, sv_bl] at hc
      have HO := hide hown
      have HF := hide hf
      have HS : Hid ((halfS ls j).set j (Nm.labL (bl X)) = halfS ls (j + 1)) := by unfold Hid; rw [hX]; exact halfS_set ls j hlt
      clear hown hX hf
      go_wp2_with fail
      refine (label_any _ _ hXs).mono ?_
      rintro e w2 ⟨rfl, k2⟩
      have hlt2 := World.block_lt_of_cell? wr _ hc
      have hc2 := (Below.cell k2 (p := ⟨g, j, none⟩) hlt2).trans hc
      have hf2 := (Below.frozen k2 (p := ⟨g, j, none⟩) hlt2).trans HF.out
      have hown2 := (OwnsS.below HO.out k2).set (halfS_len ls j) j (Nm.labL (bl X))
      rw [HS.out] at hown2
      have HO2 := hide hown2
      have hbel2 := Keeps.trans hbel k2
      clear hown2 HO hc hlt2
      go_wp2
      go_roundw
      case rel => exact ⟨j + 1, by omega, by go_num, HO2.out, hbel2.setCell hg _⟩
      case measure => simp [intOf]; omega
    · have i1 : ¬ (j : Int) < (ls.length : Int) := by omega
      rw [halfS_all ls j (by omega), HL.out] at hown
      by_cases hj2 : Nm.joinOk (refL t) = true
      · by_cases htx : textS (joinS (refL t)) = t
        · have hpy := parse_yes t H0.out hj2 htx
          have E1 : Hid (parseS t = joinS (refL t)) := by unfold Hid parseS joinS; rw [hpy, if_pos hj2]; rfl
          have E2 : Hid (parseOk t = true) := by unfold Hid parseOk; rw [hpy]; rfl
          have e3 : ((textS (joinS (refL t))).toList == t.toList) = true := by rw [htx]; simp
          have hjs : (joinS (refL t)).size ≤ maxLen := by
            have h1 := Nm.joinOk_ok _ hj2
            have h2 := ((Nm.okL_spec _).1 h1.1).1
            unfold joinS
            rw [if_pos hj2]
            unfold maxLen
            rw [← bl_length, bl_mk]; omega
          clear hpy htx
          go_wp2_with fail
          refine (refjoin_any _ (refL t) _ hown.read (by have := HR1.out; omega) HR2.out).mono ?_
          rintro e w2 ⟨rfl, k2⟩
          rw [hj2]
          clear hown
          go_wp2_with fail
          refine (reftext_any _ _ hjs).mono ?_
          rintro e w3 ⟨rfl, k3⟩
          go_wp2
          go_ret2
          exact ⟨ret_str_bool E1.out.symm E2.out.symm, (Keeps.trans hbel k2).trans k3⟩
        · have hpn := parse_no t H0.out (fun h => htx h.2)
          have E1 : Hid (parseS t = ⟨#[]⟩) := by unfold Hid parseS; rw [hpn]; rfl
          have E2 : Hid (parseOk t = false) := by unfold Hid parseOk; rw [hpn]; rfl
          have e3 : ((textS (joinS (refL t))).toList == t.toList) = false := by
            rw [toList_bl, toList_bl]
            have : bl (textS (joinS (refL t))) ≠ bl t := fun h => htx (bl_inj h)
            simpa using this
          have hjs : (joinS (refL t)).size ≤ maxLen := by
            have h1 := Nm.joinOk_ok _ hj2
            have h2 := ((Nm.okL_spec _).1 h1.1).1
            unfold joinS
            rw [if_pos hj2]
            unfold maxLen
            rw [← bl_length, bl_mk]; omega
          clear hpn htx
          go_wp2_with fail
          refine (refjoin_any _ (refL t) _ hown.read (by have := HR1.out; omega) HR2.out).mono ?_
          rintro e w2 ⟨rfl, k2⟩
          rw [hj2]
          clear hown
          go_wp2_with fail
          refine (reftext_any _ _ hjs).mono ?_
          rintro e w3 ⟨rfl, k3⟩
          go_wp2
          go_ret2
          exact ⟨ret_str_bool E1.out.symm E2.out.symm, (Keeps.trans hbel k2).trans k3⟩
      · have hpn := parse_no t H0.out (fun h => hj2 h.1)
        have E1 : Hid (parseS t = ⟨#[]⟩) := by unfold Hid parseS; rw [hpn]; rfl
        have E2 : Hid (parseOk t = false) := by unfold Hid parseOk; rw [hpn]; rfl
        simp only [Bool.not_eq_true] at hj2
        clear hpn
        go_wp2_with fail
        refine (refjoin_any _ (refL t) _ hown.read (by have := HR1.out; omega) HR2.out).mono ?_
        rintro e w2 ⟨rfl, k2⟩
        rw [hj2]
        clear hown
        go_wp2
        go_ret2
        exact ⟨ret_str_bool E1.out.symm E2.out.symm, Keeps.trans hbel k2⟩
end Go.Proofs.Ytedelldhkjkghaa
