/- What is found of the record that is made. No condition. -/
import Derived.Test.YtojihkejlmggcaaDoorEdnsLive
namespace Go.Proofs.YtojihkejlmggcaaDoor
open Go.RowKit

theorem opOk_parts {o : Op} (h : opOk o = true) : o.has = true ∧ (0 ≤ o.size ∧ o.size ≤ 65535) ∧ (0 ≤ o.ext ∧ o.ext ≤ 127) ∧ (0 ≤ o.vers ∧ o.vers ≤ 255) := by
  simpa [opOk, fitB, and_assoc] using h
theorem opRec_yes {o : Op} (h : opOk o = true) : opRec o = ⟨⟨#[0]⟩, 41, o.size, opTtl o, ⟨#[]⟩⟩ := by rw [opRec, if_pos h]
theorem ttl_bits {o : Op} (h : opOk o = true) : (0 ≤ opTtl o ∧ opTtl o ≤ 4294967295) ∧ opTtl o / 16777216 = o.ext ∧ opTtl o / 65536 % 256 = o.vers ∧ (opTtl o / 32768 % 2 == 1) = o.dob := by
  obtain ⟨_, _, h2, h3⟩ := opOk_parts h
  obtain ⟨a, s, x, v, d⟩ := o
  simp only at h2 h3
  cases d
  · have e : opTtl ⟨a, s, x, v, false⟩ = x * 16777216 + v * 65536 := by simp [opTtl]
    rw [e]
    refine ⟨by omega, by show _ = x; omega, by show _ = v; omega, ?_⟩
    show _ = false
    rw [beq_eq_false_iff_ne]
    omega
  · have e : opTtl ⟨a, s, x, v, true⟩ = x * 16777216 + v * 65536 + 32768 := by simp [opTtl]
    rw [e]
    refine ⟨by omega, by show _ = x; omega, by show _ = v; omega, ?_⟩
    show _ = true
    rw [beq_iff_eq]
    omega
theorem opOf_rec {o : Op} (h : opOk o = true) : opOf (opRec o) = o ∧ canB (opRec o) = true ∧ optB (opRec o) = true := by
  obtain ⟨h0, h1, _, _⟩ := opOk_parts h
  obtain ⟨t1, t2, t3, t4⟩ := ttl_bits h
  rw [opRec_yes h]
  refine ⟨?_, ?_, rfl⟩
  · simp only [opOf, t2, t3, t4]
    obtain ⟨a, s, x, v, d⟩ := o
    simp only at h0
    subst h0
    rfl
  · simp only [canB, fitB]
    have e : ((⟨#[0]⟩ : ByteArray).toList == [0]) = true := by decide +kernel
    rw [decide_eq_true h1, decide_eq_true t1, e]
    rfl
theorem find_rec {o : Op} (h : opOk o = true) {l : List Rec} (hl : l.any optB = false) : findR (opRec o :: l) = (o, 0) := by
  obtain ⟨h1, h2, h3⟩ := opOf_rec h
  have : l.filter optB = [] := List.filter_eq_nil_iff.2 fun x hx => by have := List.any_eq_false.1 hl x hx; simpa using this
  rw [findR, List.filter_cons, if_pos h3, this]
  simp [h1, h2]
theorem find_zero {l : List Rec} (h : (findR l).2 = 0) (h2 : (findR l).1.has = false) : l.any optB = false := by
  cases ha : l.any optB
  · rfl
  · obtain ⟨j, hj, _, hf⟩ := filter_first ha
    rw [findR, hf] at h h2
    cases hk : (l.drop (j + 1)).filter optB with
    | nil =>
      rw [hk] at h h2
      simp only at h h2
      split at h
      · rename_i hc
        rw [if_pos hc] at h2
        simp [opOf] at h2
      · simp at h
    | cons x k =>
      rw [hk] at h
      simp at h
theorem findM_zero {m : Ms} (h : (findM m).2 = 0) (h2 : (findM m).1.has = false) : m.an.any optB = false ∧ m.ns.any optB = false ∧ m.ar.any optB = false := by
  unfold findM at h h2
  split at h
  · simp at h
  · rename_i hc
    rw [if_neg hc] at h2
    simp only [Bool.or_eq_true, not_or, Bool.not_eq_true] at hc
    exact ⟨hc.1, hc.2, find_zero h h2⟩
theorem findM_with {m : Ms} {o : Op} (h : opOk o = true) (h1 : m.an.any optB = false) (h2 : m.ns.any optB = false) (h3 : m.ar.any optB = false) : findM { m with ar := opRec o :: m.ar } = (o, 0) := by
  unfold findM
  simp only [h1, h2, Bool.or_self, Bool.false_eq_true, if_false]
  exact find_rec h h3
theorem opRec_fine {o : Op} : (opRec o).n.size ≤ maxLen ∧ (opRec o).d.size ≤ maxLen := by
  unfold opRec
  split
  · exact ⟨show (⟨#[0]⟩ : ByteArray).size ≤ maxLen by unfold maxLen; decide, show (⟨#[]⟩ : ByteArray).size ≤ maxLen by unfold maxLen; decide⟩
  · exact ⟨by unfold maxLen; decide, by unfold maxLen; decide⟩
end Go.Proofs.YtojihkejlmggcaaDoor
