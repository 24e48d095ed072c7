/- What is decoded as a record may be, and lies within the message. No condition. -/
import Derived.Test.YtdlaepfnogmebaaRec
namespace Go.Proofs.Ytdlaepfnogmebaa
open Go.RowKit

/-- What is decoded may be, and lies within the message. -/
theorem dec_may (m : ByteArray) (p : Int) : ((decR m p).e ≠ 0 ∧ (decR m p).r = noRec ∧ (decR m p).next = 0) ∨ ((decR m p).e = 0 ∧ recOk (decR m p).r = true ∧ p < ((decR m p).next : Int) ∧ (decR m p).next ≤ m.size ∧ (decR m p).r.n.size ≤ 255 ∧ (decR m p).r.d.size ≤ 65535) := by
  unfold decR
  rcases Cm.read_names (bl m) p with h | h | ⟨n, k, h, h1, h2, h3, h4⟩
  · rw [h]; exact .inl ⟨by simp [Cm.bad, badD], rfl, rfl⟩
  · rw [h]; exact .inl ⟨by simp [Cm.bad, badD], rfl, rfl⟩
  · rw [h]
    simp only [if_true]
    rw [bl_length] at h4
    by_cases hin : k + 10 ≤ m.size
    · obtain ⟨D1, D2⟩ := decB_in (n := rrS ⟨n, k, 0⟩) hin _ rfl
      have g1 := get_small m k
      have g2 := get_small m ((k : Int) + 2)
      have g4 := get_small m ((k : Int) + 2 + 2 + 4)
      have g3 := Oct.getN_bound m ((k : Int) + 2 + 2) 4
      by_cases he : (Dt.expL (bl m) ((k : Int) + 2 + 2 + 4 + 2) (Oct.getN m ((k : Int) + 2 + 2 + 4) 2) (Oct.getN m k 2)).e = 0
      · rw [D1 he]
        have hk : Dt.checkB (Oct.getN m k 2) (bl (erS (Dt.expL (bl m) ((k : Int) + 2 + 2 + 4 + 2) (Oct.getN m ((k : Int) + 2 + 2 + 4) 2) (Oct.getN m k 2)))) = true ∧ (k : Int) + 2 + 2 + 4 + 2 + Oct.getN m ((k : Int) + 2 + 2 + 4) 2 ≤ m.size ∧ (erS (Dt.expL (bl m) ((k : Int) + 2 + 2 + 4 + 2) (Oct.getN m ((k : Int) + 2 + 2 + 4) 2) (Oct.getN m k 2))).size ≤ 65535 := by
          rw [show (k : Int) + 2 + 2 + 4 + 2 = ((k + 10 : Nat) : Int) by omega] at he ⊢
          obtain ⟨s, hs⟩ := Int.eq_ofNat_of_zero_le g4.1
          rw [hs] at he ⊢
          cases ho : Oct.takeOk m (k + 10 : Nat) s
          · rw [exp_out ho] at he; simp at he
          · rw [takeOk_nat, decide_eq_true_eq] at ho
            rcases Option.eq_none_or_eq_some (Dt.splitL (bl m) (k + 10) s (Oct.getN m k 2)) with h5 | ⟨x, h5⟩
            · rw [exp_no ho h5] at he; simp at he
            · rw [exp_yes ho h5]
              have e : bl (erS ⟨x.join, 0⟩) = x.join := bl_mk _
              have hp := Dt.split_len (by rw [bl_length]; exact ho) h5
              refine ⟨?_, by omega, by rw [← bl_length, e]; exact hp.1⟩
              rw [e, Dt.checkB, Dt.split_whole (by rw [bl_length]; exact ho) h5]
              rfl
        refine .inr ⟨rfl, ?_, by simp only; omega, by simp only; omega, ?_, hk.2.2⟩
        · rw [recOk_spec]
          refine ⟨?_, g1, g2, ?_, hk.1⟩
          · have : bl (rrS ⟨n, k, 0⟩) = n := bl_mk _
            simp only [this]; exact h1
          · simp only [ttlOf]
            split <;> omega
        · have : (rrS ⟨n, k, 0⟩).size = n.length := by rw [rrS, ← bl_length, bl_mk]
          simp only [this]
          exact (Dt.ok_len h1).2
      · rw [D2 he]
        exact .inl ⟨he, rfl, rfl⟩
    · rw [decB_cut hin]
      exact .inl ⟨by simp [badD], rfl, rfl⟩
end Go.Proofs.Ytdlaepfnogmebaa
