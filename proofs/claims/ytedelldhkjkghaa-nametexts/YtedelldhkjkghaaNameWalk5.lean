/- What name.Join answers, for every slice of texts. -/
import Derived.Test.YtedelldhkjkghaaNameWalk2
import Derived.Test.YtedelldhkjkghaaBytes
namespace Go.Proofs.Ytedelldhkjkghaa
open Go.RowKit

def joinS (ls : List (List UInt8)) : ByteArray := if Nm.joinOk ls = true then ⟨(Nm.joinL ls).toArray⟩ else ⟨#[]⟩
def flat (ls : List (List UInt8)) : List UInt8 := ls.flatMap Nm.lab

theorem flat_take (ls : List (List UInt8)) (j : Nat) (h : j < ls.length) : flat (ls.take (j + 1)) = flat (ls.take j) ++ Nm.lab ls[j] := by
  rw [List.take_succ_eq_append_getElem h]
  simp only [flat, List.flatMap_append, List.flatMap_cons, List.flatMap_nil, List.append_nil]
theorem flat_split (ls : List (List UInt8)) (j : Nat) : (flat ls).length = (flat (ls.take j)).length + (flat (ls.drop j)).length := by
  conv => lhs; rw [← List.take_append_drop j ls]
  simp only [flat, List.flatMap_append, List.length_append]
theorem joinL_flat (ls : List (List UInt8)) : Nm.joinL ls = flat ls ++ [0] := rfl
theorem lab_length (x : List UInt8) : (Nm.lab x).length = x.length + 1 := by simp [Nm.lab]
theorem joinOk_bad (ls : List (List UInt8)) (j : Nat) (h : j < ls.length) (hb : Nm.sizeOk ls[j] = false) : Nm.joinOk ls = false := by
  simp only [Nm.joinOk, Bool.and_eq_false_iff]
  left
  rw [List.all_eq_false]
  exact ⟨_, List.getElem_mem h, by simp [hb]⟩
theorem joinOk_long (ls : List (List UInt8)) (j : Nat) (h : j < ls.length) (hb : 255 < (flat (ls.take j)).length + ls[j].length + 2) : Nm.joinOk ls = false := by
  have h1 := flat_split ls (j + 1)
  rw [flat_take ls j h, List.length_append, lab_length] at h1
  simp only [Nm.joinOk, Bool.and_eq_false_iff, decide_eq_false_iff_not]
  right
  rw [joinL_flat, List.length_append, List.length_singleton]
  omega
theorem joinOk_all (ls : List (List UInt8)) (h1 : ls.all Nm.sizeOk = true) (h2 : (flat ls).length ≤ 254) : Nm.joinOk ls = true := by
  simp only [Nm.joinOk, Bool.and_eq_true, decide_eq_true_eq]
  exact ⟨h1, by rw [joinL_flat, List.length_append, List.length_singleton]; omega⟩

theorem isEmpty_size (X : ByteArray) : X.toList.isEmpty = decide (X.size = 0) := by
  rw [toList_bl, Bool.eq_iff_iff, List.isEmpty_iff, decide_eq_true_eq, ← List.length_eq_zero_iff, bl_length]
theorem sizeOk_false (x : List UInt8) (h : x.length = 0 ∨ 63 < x.length) : Nm.sizeOk x = false := by
  simp only [Nm.sizeOk, decide_eq_false_iff_not]; omega

theorem join_nil (a : Option Addr) (cap : Nat) (w : World) :
    Calls Try.prog 23 #[.slice a 0 cap] w fun e w' => e = .returned (.tuple #[.string (joinS []), .bool (Nm.joinOk [])]) ∧ Keeps w w' := by
  have e0 : joinS [] = ⟨#[0]⟩ := by decide +kernel
  have e1 : Nm.joinOk [] = true := by decide +kernel
  rw [e0, e1]
  clear e0 e1
  have hown := Owns.nil w w.heap.size
  go_enter Try.func23, Try.ntmps23
  go_wp2
  refine wp_loop_rounds 1 ?_
  rw [rounds_succ]
  go_wp2_with (at_builtin; refine wpList_app1 _ rfl _ _ rfl w.heap.size _ _ rfl (hown.alloc _) _ _ 0 rfl ?c1 ?c2 ?c3 ?_)
  case c1 => exact (World.cell?_alloc_mark _ _ _ (0, 0) 0).trans rfl
  case c2 => simp
  case c3 => simp
  intro v' w1 hown' hb' _
  have hbel' := ((Below.refl w.heap.size w).alloc (Nat.le_refl _) _).trans hb'
  have hcv := Owns.conv hown'
  clear hb' hown hown'
  go_wp2
  go_ret2
  exact ⟨rfl, hbel'⟩

set_option maxHeartbeats 1000000 in
theorem join_some (b off cap : Nat) (ls : List (List UInt8)) (w : World) (hb : b < w.heap.size) (hc : ∀ i (h : i < ls.length), w.cell? ⟨b, off + i, none⟩ = some (sv ls[i])) (hl : ls.length ≤ 1099511627776) (hs : ∀ x ∈ ls, x.length ≤ maxLen) :
    Calls Try.prog 23 #[.slice (some ⟨b, off, none⟩) ls.length cap] w fun e w' => e = .returned (.tuple #[.string (joinS ls), .bool (Nm.joinOk ls)]) ∧ Keeps w w' := by
  have HC := hide hc
  have HS := hide hs
  clear hc hs
  go_enter Try.func23, Try.ntmps23
  go_wp2
  go_loopw [4, 9] (fun b i wr => ∃ j : Nat, j ≤ ls.length ∧ i = .int .i64 j ∧ Owns wr w.heap.size b (flat (ls.take j)) ∧ (ls.take j).all Nm.sizeOk = true ∧ (flat (ls.take j)).length ≤ 254 ∧ Below w.heap.size w wr) (fun _ i _ => ls.length - (intOf i).toNat)
  case atStart => exact ⟨0, Nat.zero_le _, rfl, Owns.nil _ _, rfl, by simp [flat], Below.refl _ _⟩
  case round =>
    obtain ⟨j, hj, rfl, hown, hall, hfl, hbel⟩ := hrel
    have hsb := hbel.size
    by_cases hlt : j < ls.length
    · obtain ⟨X, hX⟩ : ∃ X : ByteArray, bl X = ls[j] := ⟨⟨ls[j].toArray⟩, bl_mk _⟩
      have hcell : wr.cell? ⟨b, off + j, none⟩ = some (.string X) := by
        rw [← sv_bl, hX]
        exact (hbel.cell (p := ⟨b, off + j, none⟩) hb).trans (HC.out j hlt)
      have hXs : X.size = ls[j].length := by rw [← bl_length, hX]
      have hXm := HS.out ls[j] (List.getElem_mem hlt)
      rw [← hXs] at hXm
      unfold maxLen at hXm
      have hem := isEmpty_size X
      have HX := hide hX
      have HXS := hide hXs
      have hln := Owns.len hown
      clear hX hXs
      by_cases h0 : X.size = 0
      · have HB : Hid (Nm.joinOk ls = false) := joinOk_bad ls j hlt (sizeOk_false _ (.inl (by rw [← HXS.out]; exact h0)))
        have e : X.toList.isEmpty = true := by rw [hem]; simpa using h0
        clear h0 hem
        go_wp2
        go_ret2
        exact ⟨ret_str_bool (by rw [joinS, if_neg (by rw [HB.out]; decide)]) (by rw [HB.out]), hbel⟩
      · have e : X.toList.isEmpty = false := by rw [hem]; simpa using h0
        clear hem
        by_cases h63 : (63 : Int) < X.size
        · have HB : Hid (Nm.joinOk ls = false) := joinOk_bad ls j hlt (sizeOk_false _ (.inr (by rw [← HXS.out]; omega)))
          go_wp2
          go_ret2
          exact ⟨ret_str_bool (by rw [joinS, if_neg (by rw [HB.out]; decide)]) (by rw [HB.out]), hbel⟩
        · by_cases h255 : (255 : Int) < ((flat (ls.take j)).length : Int) + (X.size : Int) + 2
          · have HB : Hid (Nm.joinOk ls = false) := joinOk_long ls j hlt (by rw [← HXS.out]; omega)
            go_wp2
            go_ret2
            exact ⟨ret_str_bool (by rw [joinS, if_neg (by rw [HB.out]; decide)]) (by rw [HB.out]), hbel⟩
          · have HT := hide (flat_take ls j hlt)
            have HA : Hid ((ls.take (j + 1)).all Nm.sizeOk = true) := by
              unfold Hid
              rw [List.take_succ_eq_append_getElem hlt, List.all_append, hall]
              simp only [List.all_cons, List.all_nil, Bool.and_true, Bool.true_and]
              simp only [Nm.sizeOk, decide_eq_true_eq, ← HXS.out]
              omega
            clear hall
            go_wp2_with (at_builtin; refine wpList_app1 _ rfl _ _ rfl w.heap.size _ _ rfl (hown.alloc _) _ _ (UInt8.ofNat X.size) rfl ?d1 ?d2 ?d3 ?_)
            case d1 => simp [bv]; omega
            case d2 => omega
            case d3 => omega
            intro v' w1 hown' hb' _
            have hbel' := (hbel.alloc hsb _).trans hb'
            have hsb' := hbel'.size
            clear hb' hown hbel hcell hln
            go_wp2_with (at_builtin; refine wpList_appStr _ rfl _ _ rfl w.heap.size _ _ rfl hown' X rfl ?e2 ?e3 ?_)
            case e2 => simp; omega
            case e3 => omega
            intro v2 w2 hown2 hb2 _
            have hbel2 := hbel'.trans hb2
            clear hb2 hown' hbel'
            go_wp2
            go_roundw
            case rel =>
              refine ⟨j + 1, by omega, by go_num, ?_, HA.out, ?_, hbel2⟩
              · rw [HT.out, Nm.lab, ← HX.out, bl_length]
                exact hown2
              · rw [HT.out, List.length_append, lab_length, ← HXS.out]; omega
            case measure => simp [intOf]; omega
    · obtain rfl : j = ls.length := by omega
      rw [List.take_length] at hown hall hfl
      have HO := hide (joinOk_all ls hall hfl)
      clear hall
      go_wp2_with (at_builtin; refine wpList_app1 _ rfl _ _ rfl w.heap.size _ _ rfl (hown.alloc _) _ _ 0 rfl ?f1 ?f2 ?f3 ?_)
      case f1 => exact (World.cell?_alloc_mark _ _ _ (0, 0) 0).trans rfl
      case f2 => omega
      case f3 => simp; omega
      intro v' w1 hown' hb' _
      have hbel' := (hbel.alloc hsb _).trans hb'
      have hcv := Owns.conv hown'
      clear hb' hown hbel hown'
      go_wp2
      go_ret2
      exact ⟨ret_str_bool (by rw [joinS, if_pos HO.out, joinL_flat]) (by rw [HO.out]), hbel'⟩

theorem join_any (v : Value) (ls : List (List UInt8)) (w : World) (hr : ReadS w v ls) (hl : ls.length ≤ 1099511627776) (hs : ∀ x ∈ ls, x.length ≤ maxLen) :
    Calls Try.prog 23 #[v] w fun e w' => e = .returned (.tuple #[.string (joinS ls), .bool (Nm.joinOk ls)]) ∧ Keeps w w' := by
  by_cases h : 0 < ls.length
  · obtain ⟨b, off, cap, rfl, hb, hc, _⟩ := hr.parts h
    exact join_some b off cap ls w hb hc hl hs
  · obtain ⟨a, cap, rfl⟩ := hr.len
    obtain rfl : ls = [] := List.length_eq_zero_iff.1 (by omega)
    exact join_nil a cap w
end Go.Proofs.Ytedelldhkjkghaa
