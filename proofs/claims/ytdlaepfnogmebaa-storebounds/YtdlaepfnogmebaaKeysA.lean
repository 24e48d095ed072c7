/- Lists of questions: nobody twice, by the document. No condition but lengths. -/
import Derived.Test.YtdlaepfnogmebaaLruQ
namespace Go.Proofs.Ytdlaepfnogmebaa
open Go.RowKit

theorem lr_mem_takeq {α : Type} (l : List α) (m j : Nat) (hm : m < j) (hl : m < l.length) : l[m] ∈ l.take j := List.mem_iff_getElem.2 ⟨m, by rw [List.length_take]; omega, by simp⟩
set_option maxHeartbeats 4000000 in
set_option maxRecDepth 100000 in
theorem Apart13_any (v : Value) (l : List Qn) (w : World) (hv : ReadRow w v 3 (l.map qnL)) (hl : l.length ≤ 1000000) :
    Calls Try.prog 30 #[v] w fun e w' => e = .returned (.bool (decide l.Nodup)) ∧ Keeps w w' := by
  obtain ⟨a, cap, h1⟩ := hv.len
  rw [List.length_map] at h1
  subst h1
  have RD := hide hv
  clear hv
  go_enter Try.func30, Try.ntmps30
  go_wp2_with fail
  go_loopw [3, 4] (fun i _ wr => ∃ j : Nat, j ≤ l.length ∧ i = .int .i64 j ∧ Hid ((l.take j).Nodup) ∧ Hid (Keeps w wr)) (fun i _ _ => l.length - (intOf i).toNat)
  case atStart => exact ⟨0, by omega, rfl, by simp [Hid], hide (Keeps.refl _)⟩
  case round =>
    obtain ⟨j, hj, rfl, HND, K⟩ := hrel
    by_cases hlt : j < l.length
    · have i2 : (j : Int) < (l.length : Int) := by omega
      have i0 : (0 : Int) ≤ (j : Int) := by omega
      go_wp2_with fail
      go_loopw [4] (fun k wr => ∃ m : Nat, m ≤ j ∧ k = .int .i64 m ∧ Hid (∀ y ∈ l.take m, y ≠ l[j]) ∧ Hid (Keeps w wr)) (fun k _ => j - (intOf k).toNat)
      case atStart => exact ⟨0, by omega, rfl, by simp [Hid], K⟩
      case round =>
        obtain ⟨m, hm, rfl, HNE, K2⟩ := hrel
        by_cases hmj : m < j
        · have i3 : (m : Int) < (j : Int) := by omega
          have i5 : (m : Int) < (l.length : Int) := by omega
          have i4 : (0 : Int) ≤ (m : Int) := by omega
          have hml : m < l.length := by omega
          have hv2 := RD.out.keeps K2.out
          obtain ⟨b, off, rfl, _, _⟩ := hv2.parts (by rw [List.length_map]; omega)
          obtain ⟨c0, c1, c2⟩ := row3 hv2 hlt
          obtain ⟨d0, d1, d2⟩ := row3 hv2 hml
          have HTK := hide (show l.take (m + 1) = l.take m ++ [l[m]] from List.take_succ_eq_append_getElem hml)
          have HDUP := hide (show l[m] = l[j] → ¬ l.Nodup from fun e => lr_nodup_not l j hlt (e ▸ lr_mem_takeq l m j hmj hml))
          have rn := eql_qn l[j] l[m]
          generalize hoo : off + j * 3 = o at *
          generalize hoo2 : off + m * 3 = o2 at *
          generalize l[j] = x at *
          generalize l[m] = y at *
          clear hv2
          by_cases he : x = y
          · rw [decide_eq_true he] at rn
            have HE : Hid (decide l.Nodup = false) := decide_eq_false (HDUP.out he.symm)
            clear HDUP HNE HTK he
            go_upto_region 7 with fail
            go_region
            go_wp2
            go_ret
            exact ⟨ret_bool HE.out.symm, K2.out.drew⟩
          · rw [decide_eq_false he] at rn
            have HNE2 : Hid (∀ z ∈ l.take (m + 1), z ≠ x) := fun z hz => by
              rw [HTK.out, List.mem_append, List.mem_singleton] at hz
              rcases hz with hz | hz
              · exact HNE.out z hz
              · subst hz; exact fun e => he e.symm
            clear HDUP HNE HTK he
            go_upto_region 7 with fail
            go_region
            go_wp2_with fail
            go_roundw
            case rel => exact ⟨m + 1, by omega, by go_num, HNE2, hide K2.out.drew⟩
            case measure => simp [intOf]; omega
        · obtain rfl : m = j := by omega
          have HND2 := hide (lr_nodup_upto l m hlt HND.out (fun h => HNE.out _ h rfl))
          go_wp2_with fail
          go_roundw
          case rel => exact ⟨m + 1, by omega, by go_num, HND2, K2⟩
          case measure => simp [intOf]; omega
    · obtain rfl : j = l.length := by omega
      have HE : Hid (decide l.Nodup = true) := by
        have h := HND.out
        rw [List.take_length] at h
        exact decide_eq_true h
      go_wp2
      go_ret
      exact ⟨ret_bool HE.out.symm, K.out⟩
end Go.Proofs.Ytdlaepfnogmebaa
