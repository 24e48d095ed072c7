/- What the document's In and Texts answer, for every input. -/
import Derived.Test.YtfhdibkacclkaaaNameRef2
import Derived.RegionTactic
import Derived.BigRegion
namespace Go.Proofs.Ytfhdibkacclkaaa
open Go.RowKit

theorem in_same (l z : List UInt8) (h : Nm.sameB l z = true) : Nm.inB l z = true := by
  simp only [Nm.sameB, Bool.and_eq_true, beq_iff_eq] at h
  obtain ⟨⟨h1, h2⟩, h3⟩ := h
  simp only [Nm.inB, h1, h2, Bool.and_self, Bool.true_and, ← h3]
  have := Nm.anc_self (l := Nm.lowL l) (by rw [Nm.ok_low]; exact h1)
  rw [Nm.lowL_length] at this
  exact this
theorem in_step (l z : List UInt8) (h : Nm.okL l = true) (hr : l ≠ [0]) (hs : Nm.sameB l z = false) : Nm.inB l z = Nm.inB (Nm.up1 l) z := by
  have hu := Nm.up1_ok h hr
  by_cases hz : Nm.okL z = true
  · simp only [Nm.inB, h, hz, hu.1, Bool.and_self, Bool.true_and]
    have hne : Nm.lowL l ≠ Nm.lowL z := fun e => by simp [Nm.sameB, h, hz, e] at hs
    have := Nm.anc_step (l := Nm.lowL l) (z := Nm.lowL z) (by rw [Nm.ok_low]; exact h) (fun e => hr ((Nm.low_root l).1 e)) hne
    rw [Nm.up1_low h hr, Nm.lowL_length, Nm.lowL_length] at this
    exact this
  · simp [Nm.inB, hz]
theorem in_root (z : List UInt8) (hs : Nm.sameB [0] z = false) : Nm.inB [0] z = false := by
  by_cases hz : Nm.okL z = true
  · have h : Nm.okL [0] = true := rfl
    have hne : Nm.lowL [0] ≠ Nm.lowL z := fun e => by simp [Nm.sameB, h, hz, e] at hs
    simp only [Nm.inB, h, hz, Bool.and_self, Bool.true_and]
    exact Nm.anc_root hne
  · simp [Nm.inB, hz]
theorem in_no (l z : List UInt8) (h : Nm.okL l = false) : Nm.inB l z = false := by simp [Nm.inB, h]

def boolOf : Value → Bool | .bool b => b | _ => false
def mIn (s t : Value) : Nat := cond (boolOf t) ((strOf s).size + 1) 0

theorem texts_nil (a c : Option Addr) (ca cc n : Nat) (w : World) (h : n = 0) :
    Calls Try.prog 13 #[.slice a n ca, .slice c 0 cc] w fun e w' => e = .returned (.bool true) ∧ Keeps w w' := by
  subst h
  go_enter Try.func13, Try.ntmps13
  go_wp2
  refine wp_loop_rounds 1 ?_
  rw [rounds_succ]
  go_wp2
  go_ret
  exact ⟨rfl, Keeps.refl _⟩
theorem texts_len (a c : Option Addr) (ca cc n m : Nat) (w : World) (h : n ≠ m) :
    Calls Try.prog 13 #[.slice a n ca, .slice c m cc] w fun e w' => e = .returned (.bool false) ∧ Keeps w w' := by
  have hne : ((n : Int) != (m : Int)) = true := by rw [bne_iff_ne]; omega
  go_enter Try.func13, Try.ntmps13
  go_wp2
  go_ret
  exact ⟨rfl, Keeps.refl _⟩
theorem take_eq_step (la lb : List (List UInt8)) (j : Nat) (ha : j < la.length) (hb : j < lb.length) (h : la.take j = lb.take j) (e : la[j] = lb[j]) : la.take (j + 1) = lb.take (j + 1) := by
  rw [List.take_succ_eq_append_getElem ha, List.take_succ_eq_append_getElem hb, h, e]

set_option maxHeartbeats 800000 in
theorem texts_some (ba oa ca bb ob cb : Nat) (la lb : List (List UInt8)) (w : World) (hl : la.length = lb.length) (hm : la.length ≤ 1099511627776) (hba : ba < w.heap.size) (hbb : bb < w.heap.size)
    (hca : ∀ i (h : i < la.length), w.cell? ⟨ba, oa + i, none⟩ = some (sv la[i])) (hcb : ∀ i (h : i < lb.length), w.cell? ⟨bb, ob + i, none⟩ = some (sv lb[i])) :
    Calls Try.prog 13 #[.slice (some ⟨ba, oa, none⟩) la.length ca, .slice (some ⟨bb, ob, none⟩) lb.length cb] w fun e w' => e = .returned (.bool (la == lb)) ∧ Keeps w w' := by
  have HA := hide hca
  have HB := hide hcb
  have hne : ((la.length : Int) != (lb.length : Int)) = false := by rw [hl]; simp
  have HL := hide hl
  clear hca hcb hl
  go_enter Try.func13, Try.ntmps13
  go_wp2
  go_loopw [5] (fun i wr => ∃ j : Nat, j ≤ la.length ∧ i = .int .i64 j ∧ la.take j = lb.take j ∧ Below w.heap.size w wr) (fun i _ => la.length - (intOf i).toNat)
  case atStart => exact ⟨0, Nat.zero_le _, rfl, rfl, Below.refl _ _⟩
  case round =>
    obtain ⟨j, hj, rfl, hte, hbel⟩ := hrel
    have HT := hide hte
    clear hte
    by_cases hlt : j < la.length
    · have hltb : j < lb.length := by have := HL.out; omega
      have c1 : wr.cell? ⟨ba, oa + j, none⟩ = some (.string ⟨la[j].toArray⟩) := (hbel.cell (p := ⟨ba, oa + j, none⟩) hba).trans (HA.out j hlt)
      have c2 : wr.cell? ⟨bb, ob + j, none⟩ = some (.string ⟨lb[j].toArray⟩) := (hbel.cell (p := ⟨bb, ob + j, none⟩) hbb).trans (HB.out j hltb)
      have i1 : (j : Int) < (la.length : Int) := by omega
      have i2 : (j : Int) < (lb.length : Int) := by omega
      by_cases he : la[j] = lb[j]
      · have HS := hide (take_eq_step la lb j hlt hltb HT.out he)
        rw [he] at c1
        generalize (⟨lb[j].toArray⟩ : ByteArray) = X at *
        clear he
        go_wp2_with fail
        go_region
        go_wp2
        go_roundw
        case rel => exact ⟨j + 1, by omega, by go_num, HS.out, hbel.drew⟩
        case measure => simp [intOf]; omega
      · have e1 : ((⟨la[j].toArray⟩ : ByteArray).toList == (⟨lb[j].toArray⟩ : ByteArray).toList) = false := by
          rw [toList_bl, toList_bl, bl_mk, bl_mk]; simpa using he
        have HF : Hid ((la == lb) = false) := by
          unfold Hid
          rw [beq_eq_false_iff_ne]
          intro e
          subst e
          exact he rfl
        generalize (⟨la[j].toArray⟩ : ByteArray) = Y at *
        generalize (⟨lb[j].toArray⟩ : ByteArray) = X at *
        clear he
        go_wp2_with fail
        go_region
        go_wp2
        go_ret
        exact ⟨ret_bool HF.out.symm, hbel.drew⟩
    · have HF : Hid ((la == lb) = true) := by
        have h1 := HT.out
        rw [List.take_of_length_le (by omega), List.take_of_length_le (by have := HL.out; omega)] at h1
        unfold Hid
        rw [h1]
        simp
      go_wp2
      go_ret
      exact ⟨ret_bool HF.out.symm, hbel⟩

theorem texts_any (va vb : Value) (la lb : List (List UInt8)) (w : World) (ra : ReadS w va la) (rb : ReadS w vb lb) (hm : la.length ≤ 1099511627776) :
    Calls Try.prog 13 #[va, vb] w fun e w' => e = .returned (.bool (la == lb)) ∧ Keeps w w' := by
  by_cases hl : la.length = lb.length
  · by_cases h0 : 0 < la.length
    · obtain ⟨ba, oa, ca, rfl, hba, hca, _⟩ := ra.parts h0
      obtain ⟨bb, ob, cb, rfl, hbb, hcb, _⟩ := rb.parts (by omega)
      exact texts_some ba oa ca bb ob cb la lb w hl hm hba hbb hca hcb
    · obtain ⟨a, ca, rfl⟩ := ra.len
      obtain ⟨b, cb, rfl⟩ := rb.len
      obtain rfl : la = [] := List.length_eq_zero_iff.1 (by omega)
      obtain rfl : lb = [] := List.length_eq_zero_iff.1 (by omega)
      exact texts_nil a b ca cb 0 w rfl
  · obtain ⟨a, ca, rfl⟩ := ra.len
    obtain ⟨b, cb, rfl⟩ := rb.len
    have : (la == lb) = false := by rw [beq_eq_false_iff_ne]; intro e; subst e; exact hl rfl
    rw [this]
    exact texts_len a b ca cb _ _ w hl
end Go.Proofs.Ytfhdibkacclkaaa
