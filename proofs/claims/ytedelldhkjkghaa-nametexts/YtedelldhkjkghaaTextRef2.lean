/- What the document's Text and Split answer, for every input. -/
import Derived.Test.YtedelldhkjkghaaTextRef1
import Derived.Test.YtedelldhkjkghaaTextMath2
namespace Go.Proofs.Ytedelldhkjkghaa
open Go.RowKit

theorem reftext_any (n : ByteArray) (w : World) (hn : n.size ≤ maxLen) :
    Calls Try.prog 28 #[.string n] w fun e w' => e = .returned (.string (textS n)) ∧ Keeps w w' := by
  by_cases h : Nm.okL (bl n) = true
  · by_cases hr : bl n = [0]
    · have HF : Hid (textS n = ⟨#[46]⟩) := by unfold Hid textS; rw [if_pos h, if_pos hr]
      have hz := (labels_root n h).2 hr
      go_enter Try.func28, Try.ntmps28
      go_wp2_with fail
      refine (reflabels_any _ _ hn).mono ?_
      rintro e w1 ⟨v, ls, rfl, hown, hls, _, k1⟩
      rw [h]
      replace hls := hls h
      subst hls
      obtain ⟨a, cap, hv⟩ := (hown.read).len
      rw [hz] at hv
      subst hv
      clear hown hz hr
      go_wp2
      go_ret
      exact ⟨ret_str HF.out.symm, k1⟩
    · have e : textS n = ⟨(Nm.textL (Nm.labelsL (bl n))).toArray⟩ := by unfold textS; rw [if_pos h, if_neg hr]
      rw [e]
      exact reftext_some _ n w hn h rfl hr
  · have HF : Hid (textS n = ⟨#[]⟩) := by simp [textS, h, Hid]
    simp only [Bool.not_eq_true] at h
    go_enter Try.func28, Try.ntmps28
    go_wp2_with fail
    refine (reflabels_any _ _ hn).mono ?_
    rintro e w1 ⟨v, ls, rfl, hown, hls, _, k1⟩
    rw [h]
    go_wp2
    go_ret
    exact ⟨ret_str HF.out.symm, k1⟩

/-- What comes of a call that makes a slice of texts. -/
def StrsEnd (w : World) (ls : List (List UInt8)) (e : Ending) (w' : World) : Prop := ∃ v, e = .returned v ∧ OwnsS w' w.heap.size v ls ∧ Keeps w w'
theorem StrsEnd.mk {w w' : World} {ls : List (List UInt8)} {v : Value} (h : OwnsS w' w.heap.size v ls) (k : Keeps w w') : StrsEnd w ls (.returned v) w' := ⟨v, rfl, h, k⟩

theorem spa_hit (s : ByteArray) (f i : Nat) (h : i < s.size) (hc : s[i] = 46) : Nm.spa (bl (s.extract f i)) ((bl s).drop i) = bl (s.extract f i) :: Nm.spa (bl (s.extract (i + 1) (i + 1))) ((bl s).drop (i + 1)) := by
  rw [bl_drop s i h, hc]
  simp only [Nm.spa, if_true]
  rw [show bl (s.extract (i + 1) (i + 1)) = [] by rw [bl_extract]; simp]
theorem spa_miss (s : ByteArray) (f i : Nat) (hf : f ≤ i) (h : i < s.size) (hc : s[i] ≠ 46) : Nm.spa (bl (s.extract f i)) ((bl s).drop i) = Nm.spa (bl (s.extract f (i + 1))) ((bl s).drop (i + 1)) := by
  rw [bl_drop s i h]
  simp only [Nm.spa, if_neg hc]
  congr 1
  rw [bl_extract, bl_extract, show i + 1 - f = i - f + 1 by omega]
  have hl : i - f < ((bl s).drop f).length := by rw [List.length_drop, bl_length]; omega
  rw [List.take_succ_eq_append_getElem hl, List.getElem_drop]
  congr 2
  have : (bl s)[f + (i - f)]'(by rw [bl_length]; omega) = (bl s)[i]'(by rw [bl_length]; exact h) := by congr 1; omega
  rw [this, bl_get s i h]

set_option maxHeartbeats 1000000 in
theorem refsplit_any (s : ByteArray) (w : World) (hs : s.size ≤ 1100) :
    Calls Try.prog 33 #[.string s, .int .u8 46] w fun e w' => StrsEnd w (Nm.spa [] (bl s)) e w' := by
  go_enter Try.func33, Try.ntmps33
  go_wp2
  go_loopw [5, 6, 7] (fun v f i wr => ∃ (a j : Nat) (ds : List (List UInt8)), a ≤ j ∧ f = .int .i64 a ∧ i = .int .i64 j ∧ ds.length ≤ j ∧ j ≤ s.size + 1 ∧ OwnsS wr w.heap.size v ds ∧ Below w.heap.size w wr ∧ ((j ≤ s.size ∧ Nm.spa [] (bl s) = ds ++ Nm.spa (bl (s.extract a j)) ((bl s).drop j)) ∨ (j = s.size + 1 ∧ Nm.spa [] (bl s) = ds))) (fun _ _ i _ => s.size + 1 - (intOf i).toNat)
  case atStart => exact ⟨0, 0, [], Nat.le_refl _, rfl, rfl, by simp, by omega, OwnsS.nil _ _, Below.refl _ _, .inl ⟨by omega, by rw [show bl (s.extract 0 0) = [] by rw [bl_extract]; simp]; rfl⟩⟩
  case round =>
    obtain ⟨a, j, ds, haj, rfl, rfl, hdl, hjs, hown, hbel, hq⟩ := hrel
    have hsb := hbel.size
    have HQ := hide hq
    clear hq
    by_cases hle : j ≤ s.size
    · have hq : Nm.spa [] (bl s) = ds ++ Nm.spa (bl (s.extract a j)) ((bl s).drop j) := by
        rcases HQ.out with h | h
        · exact h.2
        · omega
      have HQ2 := hide hq
      clear hq HQ
      have i1 : (a : Int) ≤ (j : Int) := by omega
      have i2 : (j : Int) ≤ (s.size : Int) := by omega
      by_cases hlt : j < s.size
      · have z0 : ((j : Int) == (s.size : Int)) = false := beq_eq_false_iff_ne.2 (by omega)
        by_cases hc : s[j] = 46
        · have z1 : ((s[j].toNat : Int) == 46) = true := by rw [hc]; rfl
          have HS := hide (spa_hit s a j hlt hc)
          clear hc
          go_wp2_with (at_builtin; refine wpList_appS _ rfl _ _ rfl w.heap.size _ _ rfl (hown.alloc _) _ _ (bl (s.extract a j)) rfl ?c1 ?c2 ?c3 ?_)
          case c1 => first | exact cell_str _ _ _ | exact (sv_bl _).symm
          case c2 => omega
          case c3 => first | omega | (simp; omega)
          intro v2 w2 hown2 hb2 _
          have hbel2 := (hbel.alloc (by omega) _).trans hb2
          clear hb2 hown hbel
          go_wp2
          go_roundw
          case rel => exact ⟨j + 1, j + 1, _, Nat.le_refl _, by go_num, by go_num, by simp; omega, by omega, hown2, hbel2, .inl ⟨by omega, by rw [HQ2.out, HS.out]; simp⟩⟩
          case measure => simp [intOf]; omega
        · have z1 : ((s[j].toNat : Int) == 46) = false := by
            have := mt (c_eq s[j] 46 (by decide)).1 hc
            simpa using this
          have HS := hide (spa_miss s a j haj hlt hc)
          clear hc
          go_wp2
          go_roundw
          case rel => exact ⟨a, j + 1, ds, by omega, rfl, by go_num, by omega, by omega, hown, hbel, .inl ⟨by omega, by rw [HQ2.out, HS.out]⟩⟩
          case measure => simp [intOf]; omega
      · have z0 : ((j : Int) == (s.size : Int)) = true := by rw [beq_iff_eq]; omega
        have HE : Hid (Nm.spa [] (bl s) = ds ++ [bl (s.extract a j)]) := by
          unfold Hid
          rw [HQ2.out, List.drop_of_length_le (by rw [bl_length]; omega)]
          rfl
        go_wp2_with (at_builtin; refine wpList_appS _ rfl _ _ rfl w.heap.size _ _ rfl (hown.alloc _) _ _ (bl (s.extract a j)) rfl ?d1 ?d2 ?d3 ?_)
        case d1 => first | exact cell_str _ _ _ | exact (sv_bl _).symm
        case d2 => omega
        case d3 => first | omega | (simp; omega)
        intro v2 w2 hown2 hb2 _
        have hbel2 := (hbel.alloc (by omega) _).trans hb2
        clear hb2 hown hbel
        go_wp2
        go_roundw
        case rel => exact ⟨j + 1, j + 1, _, Nat.le_refl _, by go_num, by go_num, by simp; omega, by omega, hown2, hbel2, .inr ⟨by omega, HE.out⟩⟩
        case measure => simp [intOf]; omega
    · have HE : Hid (Nm.spa [] (bl s) = ds) := by
        rcases HQ.out with h | h
        · omega
        · exact h.2
      go_wp2
      go_ret
      exact StrsEnd.mk (by rw [HE.out]; exact hown) hbel
end Go.Proofs.Ytedelldhkjkghaa
