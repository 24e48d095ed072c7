/- What the document's Join, Up, In, Texts answer, for every input. -/
import Derived.Test.YthoominldliphaaNameRef1
import Derived.Test.YthoominldliphaaNameWalk5
import Derived.RegionTactic
import Derived.BigRegion
namespace Go.Proofs.Ythoominldliphaa
open Go.RowKit

theorem joinOk_end (ls : List (List UInt8)) (h1 : ls.all Nm.sizeOk = true) : Nm.joinOk ls = decide ((flat ls).length + 1 ≤ 255) := by
  simp only [Nm.joinOk, h1, Bool.true_and]
  rw [joinL_flat, List.length_append, List.length_singleton]
theorem joinOk_over (ls : List (List UInt8)) (j : Nat) (hb : 255 < (flat (ls.take j)).length) : Nm.joinOk ls = false := by
  have h1 := flat_split ls j
  simp only [Nm.joinOk, Bool.and_eq_false_iff, decide_eq_false_iff_not]
  right
  rw [joinL_flat, List.length_append, List.length_singleton]
  omega

theorem refjoin_nil (a : Option Addr) (cap : Nat) (w : World) :
    Calls Try.prog 56 #[.slice a 0 cap] w fun e w' => e = .returned (.tuple #[.string (joinS []), .bool (Nm.joinOk [])]) ∧ Keeps w w' := by
  have e0 : joinS [] = ⟨#[0]⟩ := by decide +kernel
  have e1 : Nm.joinOk [] = true := by decide +kernel
  rw [e0, e1]
  clear e0 e1
  go_enter Try.func56, Try.ntmps56
  go_wp2
  refine wp_loop_rounds 1 ?_
  rw [rounds_succ]
  go_wp2
  go_ret2
  exact ⟨rfl, Keeps.refl _⟩

set_option maxHeartbeats 1600000 in
theorem refjoin_some (b off cap : Nat) (ls : List (List UInt8)) (w : World) (hb : b < w.heap.size) (hc : ∀ i (h : i < ls.length), w.cell? ⟨b, off + i, none⟩ = some (sv ls[i])) (hl : ls.length ≤ 1099511627776) (hs : ∀ x ∈ ls, x.length ≤ maxLen) :
    Calls Try.prog 56 #[.slice (some ⟨b, off, none⟩) ls.length cap] w fun e w' => e = .returned (.tuple #[.string (joinS ls), .bool (Nm.joinOk ls)]) ∧ Keeps w w' := by
  have HC := hide hc
  have HS := hide hs
  clear hc hs
  go_enter Try.func56, Try.ntmps56
  go_wp2
  go_loopw [4, 5] (fun s i wr => ∃ (j : Nat) (S : ByteArray), j ≤ ls.length ∧ i = .int .i64 j ∧ s = .string S ∧ bl S = flat (ls.take j) ∧ S.size ≤ 319 ∧ (ls.take j).all Nm.sizeOk = true ∧ Below w.heap.size w wr) (fun _ i _ => ls.length - (intOf i).toNat)
  case atStart => exact ⟨0, ⟨#[]⟩, Nat.zero_le _, rfl, rfl, rfl, by decide, rfl, Below.refl _ _⟩
  case round =>
    obtain ⟨j, S, hj, rfl, rfl, hS, hSs, hall, hbel⟩ := hrel
    have HSS := hide hS
    clear hS
    have hfl : (flat (ls.take j)).length = S.size := by rw [← HSS.out, bl_length]
    have HFL := hide hfl
    clear hfl
    have hsb := hbel.size
    by_cases hlt : j < ls.length
    · obtain ⟨X, hX⟩ : ∃ X : ByteArray, bl X = ls[j] := ⟨⟨ls[j].toArray⟩, bl_mk _⟩
      have hcell : wr.cell? ⟨b, off + j, none⟩ = some (.string X) := by
        rw [← sv_bl, hX]
        exact (hbel.cell (p := ⟨b, off + j, none⟩) hb).trans (HC.out j hlt)
      have hXs : X.size = ls[j].length := by rw [← bl_length, hX]
      have hXm := HS.out ls[j] (List.getElem_mem hlt)
      rw [← hXs] at hXm
      unfold maxLen at hXm
      have HX := hide hX
      have HXS := hide hXs
      clear hX hXs
      by_cases h0 : (X.size : Int) < 1
      · have HB : Hid (Nm.joinOk ls = false) := joinOk_bad ls j hlt (sizeOk_false _ (.inl (by rw [← HXS.out]; omega)))
        go_wp2
        go_ret2
        exact ⟨ret_str_bool (by rw [joinS, if_neg (by rw [HB.out]; decide)]) (by rw [HB.out]), hbel⟩
      · by_cases h63 : (63 : Int) < X.size
        · have HB : Hid (Nm.joinOk ls = false) := joinOk_bad ls j hlt (sizeOk_false _ (.inr (by rw [← HXS.out]; omega)))
          go_wp2
          go_ret2
          exact ⟨ret_str_bool (by rw [joinS, if_neg (by rw [HB.out]; decide)]) (by rw [HB.out]), hbel⟩
        · by_cases h255 : (255 : Int) < S.size
          · have HB : Hid (Nm.joinOk ls = false) := joinOk_over ls j (by rw [HFL.out]; omega)
            go_wp2
            go_ret2
            exact ⟨ret_str_bool (by rw [joinS, if_neg (by rw [HB.out]; decide)]) (by rw [HB.out]), hbel⟩
          · have HT := hide (flat_take ls j hlt)
            have HA : Hid ((ls.take (j + 1)).all Nm.sizeOk = true) := by
              unfold Hid
              rw [List.take_succ_eq_append_getElem hlt, List.all_append, hall]
              simp only [List.all_cons, List.all_nil, Bool.and_true, Bool.true_and]
              simp only [Nm.sizeOk, decide_eq_true_eq, ← HXS.out]
              omega
            have hcv := fun w => conv_new (P := Try.prog) 58 9 5 Try.underlying58 Try.underlying5 Try.underlying9 #[.int .u8 (X.size : Int)] [UInt8.ofNat X.size] 1 1 rfl (by simp [bv]; omega) w
            clear hall
            go_wp2_with fail
            have hw8 : IntKind.u8.wrap (X.size : Int) = (X.size : Int) := by rw [IntKind.wrap_u8]; omega
            have hcd : ∀ w : World, (convert 58 9 (.slice (some ⟨w.heap.size, 0, none⟩) 1 1)).run Try.prog (w.alloc (.cells #[.int .u8 (X.size : Int)] 5)).drew = .ok (.string ⟨#[UInt8.ofNat X.size]⟩) (w.alloc (.cells #[.int .u8 (X.size : Int)] 5)).drew := fun w => hcv w.drew
            clear hcv
            have hcell2 : (wr.alloc (.cells #[.int .u8 (X.size : Int)] 5)).cell? ⟨b, off + j, none⟩ = some (.string X) :=
              (Below.cell ((Below.refl wr.heap.size wr).alloc (Nat.le_refl _) _) (p := ⟨b, off + j, none⟩) (by show b < wr.heap.size; omega)).trans hcell
            have z1 : S.size + 1 ≤ 9223372036854775807 := by omega
            have z2 : S.size + 1 + X.size ≤ 9223372036854775807 := by omega
            go_region
            go_wp2
            go_roundw
            case rel =>
              refine ⟨j + 1, S ++ ⟨#[UInt8.ofNat X.size]⟩ ++ X, by omega, by go_num, rfl, ?_, ?_, HA.out, (hbel.alloc hsb _).drew⟩
              · rw [HT.out, Nm.lab, ← HX.out, ← HSS.out, bl_length]; simp [bl]
              · rw [ByteArray.size_append, ByteArray.size_append, show (⟨#[UInt8.ofNat X.size]⟩ : ByteArray).size = 1 from rfl]; omega
            case measure => simp [intOf]; omega
    · obtain rfl : j = ls.length := by omega
      rw [List.take_length] at hall
      have hflz : (flat ls).length = S.size := by have := HFL.out; rw [List.take_length] at this; exact this
      have hSz : bl S = flat ls := by have := HSS.out; rw [List.take_length] at this; exact this
      have HO := hide (joinOk_end ls hall)
      have HZ := hide hflz
      have HSZ := hide hSz
      clear hall hflz hSz
      by_cases h255 : (255 : Int) < (S.size : Int) + 1
      · have HB : Hid (Nm.joinOk ls = false) := by unfold Hid; rw [HO.out, HZ.out]; simp; omega
        go_wp2
        go_ret2
        exact ⟨ret_str_bool (by rw [joinS, if_neg (by rw [HB.out]; decide)]) (by rw [HB.out]), hbel⟩
      · have HB : Hid (Nm.joinOk ls = true) := by unfold Hid; rw [HO.out, HZ.out]; simp; omega
        go_wp2
        go_ret2
        exact ⟨ret_str_bool (by rw [joinS, if_pos HB.out, joinL_flat, ← HSZ.out]; apply bl_inj; rw [bl_mk]; simp [bl]) (by rw [HB.out]), hbel⟩

theorem refjoin_any (v : Value) (ls : List (List UInt8)) (w : World) (hr : ReadS w v ls) (hl : ls.length ≤ 1099511627776) (hs : ∀ x ∈ ls, x.length ≤ maxLen) :
    Calls Try.prog 56 #[v] w fun e w' => e = .returned (.tuple #[.string (joinS ls), .bool (Nm.joinOk ls)]) ∧ Keeps w w' := by
  by_cases h : 0 < ls.length
  · obtain ⟨b, off, cap, rfl, hb, hc, _⟩ := hr.parts h
    exact refjoin_some b off cap ls w hb hc hl hs
  · obtain ⟨a, cap, rfl⟩ := hr.len
    obtain rfl : ls = [] := List.length_eq_zero_iff.1 (by omega)
    exact refjoin_nil a cap w

/-- Up is the join of all labels but the first. -/
theorem up_join (n : ByteArray) (h : Nm.okL (bl n) = true) (hr : bl n ≠ [0]) :
    Nm.joinOk (Nm.labelsL (bl n)).tail = true ∧ joinS (Nm.labelsL (bl n)).tail = upS n := by
  have hu := Nm.up1_ok h hr
  have e : (Nm.labelsL (bl n)).tail = Nm.labelsL (Nm.up1 (bl n)) := by rw [hu.2.2]; rfl
  have hj := Nm.ok_join _ hu.1
  rw [e]
  refine ⟨hj.2, ?_⟩
  apply bl_inj
  rw [joinS, if_pos hj.2, bl_mk, hj.1, upS, if_pos ⟨h, hr⟩, bl_from]
  rfl
theorem labels_root (n : ByteArray) (h : Nm.okL (bl n) = true) : (Nm.labelsL (bl n)).length = 0 ↔ bl n = [0] := by
  constructor
  · intro e
    apply Classical.byContradiction
    intro hr
    have hu := Nm.up1_ok h hr
    rw [hu.2.2] at e
    simp at e
  · intro e; rw [e]; rfl
theorem label_short (n : ByteArray) (h : Nm.okL (bl n) = true) (x : List UInt8) (hx : x ∈ Nm.labelsL (bl n)) : x.length ≤ 63 := by
  have h1 := Nm.labs_sizes ((Nm.okL_spec _).1 h).2
  rw [List.all_eq_true] at h1
  have := h1 x hx
  simp only [Nm.sizeOk, decide_eq_true_eq] at this
  exact this.2

set_option maxHeartbeats 400000 in
theorem refup_any (n : ByteArray) (w : World) (hn : n.size ≤ maxLen) :
    Calls Try.prog 48 #[.string n] w fun e w' => e = .returned (.tuple #[.string (upS n), .bool (upOk n)]) ∧ Keeps w w' := by
  by_cases h : Nm.okL (bl n) = true
  · by_cases hr : bl n = [0]
    · have E1 : Hid (upS n = ⟨#[]⟩) := by simp [upS, hr, Hid]
      have E2 : Hid (upOk n = false) := by simp [upOk, hr, Hid]
      have hz := (labels_root n h).2 hr
      go_enter Try.func48, Try.ntmps48
      go_wp2_with fail
      refine (reflabels_any _ _ hn).mono ?_
      rintro e w1 ⟨v, ls, rfl, hown, hls, _, k1⟩
      rw [h]
      have hls := hls h
      subst hls
      obtain ⟨a, cap, hv⟩ := (hown.read).len
      rw [hz] at hv
      subst hv
      clear hown hz hr
      go_wp2
      go_ret2
      exact ⟨ret_str_bool (by rw [E1.out]) (by rw [E2.out]), k1⟩
    · obtain ⟨u1, u2⟩ := up_join n h hr
      have E2 : Hid (upOk n = true) := by simp [upOk, h, hr, Hid]
      have hz : 0 < (Nm.labelsL (bl n)).length := Nat.pos_of_ne_zero (fun e => hr ((labels_root n h).1 e))
      have hsh := label_short n h
      go_enter Try.func48, Try.ntmps48
      go_wp2_with fail
      refine (reflabels_any _ _ hn).mono ?_
      rintro e w1 ⟨v, ls, rfl, hown, hls, hle, k1⟩
      rw [h]
      have hls := hls h
      subst hls
      obtain ⟨b, off, cap, hv, hb, hc, hcap⟩ := (hown.read).parts hz
      subst hv
      generalize Nm.labelsL (bl n) = ls at *
      have HC := hide hc
      have HS := hide hsh
      have hi : (1 : Int) ≤ (ls.length : Int) := by omega
      have hne : ((ls.length : Int) == 0) = false := beq_eq_false_iff_ne.2 (by omega)
      have HT : Hid (∀ x ∈ ls.tail, x.length ≤ maxLen) := fun x hx => by have := hsh x (List.mem_of_mem_tail hx); unfold maxLen; omega
      have hm : (ls.length : Int) ≤ (cap : Int) := by omega
      clear hown hc hsh hr hls
      go_wp2_with fail
      · have h1 : ls.length = 1 := by omega
        have ht : ls.tail = [] := List.length_eq_zero_iff.1 (by simp; omega)
        rw [h1, show 1 - 1 = 0 from rfl]
        refine (refjoin_any _ ls.tail _ (by rw [ht]; exact ReadS.none) (by simp; omega) HT.out).mono ?_
        rintro e w2 ⟨rfl, k2⟩
        rw [u1, u2]
        go_wp2
        go_ret2
        exact ⟨ret_str_bool rfl (by rw [E2.out]), k1.trans k2⟩
      · refine (refjoin_any _ ls.tail _ (ReadS.mk (by simp) (fun i hi => ?_) (by omega)) (by simp; omega) HT.out).mono ?_
        · have h2 : i + 1 < ls.length := by simp at hi; omega
          have := HC.out (i + 1) h2
          rw [show off + 1 + i = off + (i + 1) by omega, this]
          simp
        rintro e w2 ⟨rfl, k2⟩
        rw [u1, u2]
        go_wp2
        go_ret2
        exact ⟨ret_str_bool rfl (by rw [E2.out]), k1.trans k2⟩
  · have E1 : Hid (upS n = ⟨#[]⟩) := by simp [upS, h, Hid]
    have E2 : Hid (upOk n = false) := by simp [upOk, h, Hid]
    simp only [Bool.not_eq_true] at h
    go_enter Try.func48, Try.ntmps48
    go_wp2_with fail
    refine (reflabels_any _ _ hn).mono ?_
    rintro e w1 ⟨v, ls, rfl, hown, hls, _, k1⟩
    rw [h]
    go_wp2
    go_ret2
    exact ⟨ret_str_bool (by rw [E1.out]) (by rw [E2.out]), k1⟩
end Go.Proofs.Ythoominldliphaa
