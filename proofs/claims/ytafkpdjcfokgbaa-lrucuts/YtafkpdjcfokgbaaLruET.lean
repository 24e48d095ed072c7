/- Lists of string: nobody twice, by the document. No condition but lengths. (Made by tools/gen_lru.py.) -/
import Derived.Test.YtafkpdjcfokgbaaLruDT
namespace Go.Proofs.Ytafkpdjcfokgbaa
open Go.RowKit

theorem lr_mem_taket {α : Type} (l : List α) (m j : Nat) (hm : m < j) (hl : m < l.length) : l[m] ∈ l.take j := List.mem_iff_getElem.2 ⟨m, by rw [List.length_take]; omega, by simp⟩
def ROutRelt (w : World) (l : List (List UInt8)) (i : Value) (wr : World) : Prop :=
  ∃ j : Nat, j ≤ l.length ∧ i = .int .i64 j ∧ (l.take j).Nodup ∧ Keeps w wr
def RInRelt (w : World) (l : List (List UInt8)) (x : (List UInt8)) (k : Value) (wr : World) : Prop :=
  ∃ m : Nat, m ≤ l.length ∧ k = .int .i64 m ∧ (∀ y ∈ l.take m, y ≠ x) ∧ Keeps w wr
set_option maxHeartbeats 4000000 in
set_option maxRecDepth 100000 in
theorem refCheck13_t (v : Value) (l : List (List UInt8)) (w : World) (hv : ReadRow w v 1 (l.map tv)) (hl : l.length ≤ 1000000000) :
    Calls Try.prog 19 #[v] w fun e w' => e = .returned (.bool (decide l.Nodup)) ∧ Keeps w w' := by
  obtain ⟨a, cap, h1⟩ := hv.len
  rw [List.length_map] at h1
  subst h1
  have RD := hide hv
  clear hv
  go_enter Try.func19, Try.ntmps19
  go_wp2_with fail
  go_loopw [3, 4] (fun i _ wr => ROutRelt w l i wr) (fun i _ _ => l.length - (intOf i).toNat)
  case atStart => exact ⟨0, by omega, rfl, by simp, Keeps.refl _⟩
  case round =>
    obtain ⟨j, hj, rfl, HND, K⟩ := hrel
    replace HND := hide HND
    replace K := hide K
    by_cases hlt : j < l.length
    · have i2 : (j : Int) < (l.length : Int) := by omega
      have i0 : (0 : Int) ≤ (j : Int) := by omega
      go_wp2_with fail
      go_loopw [4] (fun k wr => ∃ m : Nat, m ≤ j ∧ k = .int .i64 m ∧ (∀ y ∈ l.take m, y ≠ l[j]) ∧ Keeps w wr) (fun k _ => j - (intOf k).toNat)
      case atStart => exact ⟨0, by omega, rfl, by simp, K.out⟩
      case round =>
        obtain ⟨m, hm, rfl, HNE, K2⟩ := hrel
        replace HNE := hide HNE
        replace K2 := hide K2
        by_cases hmj : m < j
        · have i3 : (m : Int) < (j : Int) := by omega
          have i5 : (m : Int) < (l.length : Int) := by omega
          have i4 : (0 : Int) ≤ (m : Int) := by omega
          have hml : m < l.length := by omega
          have hv2 := RD.out.keeps K2.out
          obtain ⟨b, off, rfl, _, _⟩ := hv2.parts (by rw [List.length_map]; omega)
          have c0 := row1t hv2 hlt
          have c1 := row1t hv2 hml
          have HTK := hide (show l.take (m + 1) = l.take m ++ [l[m]] from List.take_succ_eq_append_getElem hml)
          have HDUP := hide (show l[m] = l[j] → ¬ l.Nodup from fun e => lr_nodup_not l j hlt (e ▸ lr_mem_taket l m j hmj hml))
          generalize hoo : off + j = o at *
          generalize hoo2 : off + m = o2 at *
          generalize l[j] = x at *
          generalize l[m] = y at *
          clear hv2
          simp only [sv] at c0 c1
          by_cases he : x = y
          · have hbe : (x == y) = true := by rw [he]; simp
            have hbe2 : (y == x) = true := by rw [he]; simp
            have HE : Hid (decide l.Nodup = false) := decide_eq_false (HDUP.out he.symm)
            replace he := hide he
            clear HDUP HNE HTK
            go_upto_region 7 with fail
            go_region
            go_wp2
            go_ret
            exact ⟨ret_bool HE.out.symm, K2.out.drew⟩
          · have hbe : (x == y) = false := by rw [beq_eq_false_iff_ne]; exact he
            have HNE2 : Hid (∀ z ∈ l.take (m + 1), z ≠ x) := fun z hz => by
              rw [HTK.out, List.mem_append, List.mem_singleton] at hz
              rcases hz with hz | hz
              · exact HNE.out z hz
              · subst hz; exact fun e => he e.symm
            replace he := hide he
            clear HDUP HNE HTK
            go_upto_region 7 with fail
            go_region
            go_wp2_with fail
            go_roundw
            case rel => exact ⟨m + 1, by omega, by go_num, HNE2.out, K2.out.drew⟩
            case measure => simp [intOf]; omega
        · obtain rfl : m = j := by omega
          have HND2 := hide (lr_nodup_upto l m hlt HND.out (fun h => HNE.out _ h rfl))
          go_wp2_with fail
          go_roundw
          case rel => exact ⟨m + 1, by omega, by go_num, HND2.out, K2.out⟩
          case measure => simp [intOf]; omega
    · obtain rfl : j = l.length := by omega
      rw [List.take_length] at HND
      have HE : Hid (decide l.Nodup = true) := decide_eq_true HND.out
      go_wp2
      go_ret
      exact ⟨ret_bool HE.out.symm, K.out⟩

end Go.Proofs.Ytafkpdjcfokgbaa
