/- RecordMay answers true, for every input: the walk. -/
import Derived.Test.YthoominldliphaaRecLive
namespace Go.Proofs.Ythoominldliphaa
open Go.RowKit

/-- What is decoded may be, and lies within the message. -/
theorem dec_may (m : ByteArray) (p : Int) : ((decR m p).e ≠ 0 ∧ (decR m p).r = noRec ∧ (decR m p).next = 0) ∨ ((decR m p).e = 0 ∧ recOk (decR m p).r = true ∧ p < ((decR m p).next : Int) ∧ (decR m p).next ≤ m.size ∧ (decR m p).r.n.size ≤ 255 ∧ (decR m p).r.d.size ≤ 65535) := by
  unfold decR
  rcases Cm.read_names (bl m) p with h | h | ⟨n, k, h, h1, h2, h3, h4⟩
  · rw [h]; exact .inl ⟨by simp [Cm.bad, badD], rfl, rfl⟩
  · rw [h]; exact .inl ⟨by simp [Cm.bad, badD], rfl, rfl⟩
  · rw [h]
    simp only [if_true]
    rw [bl_length] at h4
    by_cases hin : k + 10 ≤ m.size
    · obtain ⟨D1, D2⟩ := decB_in (n := rrS ⟨n, k, 0⟩) hin _ rfl
      have g1 := get_small m k
      have g2 := get_small m ((k : Int) + 2)
      have g4 := get_small m ((k : Int) + 2 + 2 + 4)
      have g3 := Oct.getN_bound m ((k : Int) + 2 + 2) 4
      by_cases he : (Dt.expL (bl m) ((k : Int) + 2 + 2 + 4 + 2) (Oct.getN m ((k : Int) + 2 + 2 + 4) 2) (Oct.getN m k 2)).e = 0
      · rw [D1 he]
        have hk : Dt.checkB (Oct.getN m k 2) (bl (erS (Dt.expL (bl m) ((k : Int) + 2 + 2 + 4 + 2) (Oct.getN m ((k : Int) + 2 + 2 + 4) 2) (Oct.getN m k 2)))) = true ∧ (k : Int) + 2 + 2 + 4 + 2 + Oct.getN m ((k : Int) + 2 + 2 + 4) 2 ≤ m.size ∧ (erS (Dt.expL (bl m) ((k : Int) + 2 + 2 + 4 + 2) (Oct.getN m ((k : Int) + 2 + 2 + 4) 2) (Oct.getN m k 2))).size ≤ 65535 := by
          rw [show (k : Int) + 2 + 2 + 4 + 2 = ((k + 10 : Nat) : Int) by omega] at he ⊢
          obtain ⟨s, hs⟩ := Int.eq_ofNat_of_zero_le g4.1
          rw [hs] at he ⊢
          cases ho : Oct.takeOk m (k + 10 : Nat) s
          · rw [exp_out ho] at he; simp at he
          · rw [takeOk_nat, decide_eq_true_eq] at ho
            rcases Option.eq_none_or_eq_some (Dt.splitL (bl m) (k + 10) s (Oct.getN m k 2)) with h5 | ⟨x, h5⟩
            · rw [exp_no ho h5] at he; simp at he
            · rw [exp_yes ho h5]
              have e : bl (erS ⟨x.join, 0⟩) = x.join := bl_mk _
              have hp := Dt.split_len (by rw [bl_length]; exact ho) h5
              refine ⟨?_, by omega, by rw [← bl_length, e]; exact hp.1⟩
              rw [e, Dt.checkB, Dt.split_whole (by rw [bl_length]; exact ho) h5]
              rfl
        refine .inr ⟨rfl, ?_, by simp only; omega, by simp only; omega, ?_, hk.2.2⟩
        · rw [recOk_spec]
          refine ⟨?_, g1, g2, ?_, hk.1⟩
          · have : bl (rrS ⟨n, k, 0⟩) = n := bl_mk _
            simp only [this]; exact h1
          · simp only [ttlOf]
            split <;> omega
        · have : (rrS ⟨n, k, 0⟩).size = n.length := by rw [rrS, ← bl_length, bl_mk]
          simp only [this]
          exact (Dt.ok_len h1).2
      · rw [D2 he]
        exact .inl ⟨he, rfl, rfl⟩
    · rw [decB_cut hin]
      exact .inl ⟨by simp [badD], rfl, rfl⟩

set_option maxHeartbeats 4000000 in
theorem RecordMay_walk (m : ByteArray) (p : Int) (w : World) (hm : m.size ≤ maxLen) (hp : -9223372036854775808 ≤ p ∧ p ≤ 9223372036854775807) :
    Calls Try.prog 7 #[.string m, .int .i64 p] w fun e w' => e = .returned (.bool true) ∧ Keeps w w' := by
  have hm' := hm
  unfold maxLen at hm'
  by_cases hl : 2000 < (m.size : Int)
  · go_enter Try.func7, Try.ntmps7
    go_wp2_with (go_at_call 8; refine (live6_any _).mono ?_; rintro e w3 ⟨rfl, k3⟩)
    go_ret
    exact ⟨rfl, k3⟩
  have HA := hide (fun W => decode_any m p W (by omega) hp.2)
  rcases dec_may m p with ⟨h1, h2, h3⟩ | ⟨h1, h2, h3, h4, h5, h6⟩
  · generalize decR m p = D at *
    obtain ⟨r, nx, er⟩ := D
    simp only at h1 h2 h3
    subst h2 h3
    unfold decV recV noRec at *
    have hne : ((er : Int) != 0) = true := by rw [bne_iff_ne]; omega
    clear h1
    go_enter Try.func7, Try.ntmps7
    go_wp2_with fail
    refine (HA.out _).mono ?_
    rintro e w1 ⟨rfl, k1⟩
    go_wp2_with fail
    refine (live6_any _).mono ?_
    rintro e w3 ⟨rfl, k4⟩
    go_wp2
    go_ret
    exact ⟨rfl, (k1.alloc _).trans k4⟩
  · generalize decR m p = D at *
    obtain ⟨r, nx, er⟩ := D
    simp only at h1 h2 h3 h4 h5 h6
    subst h1
    have HC := hide (fun W => rcheck_any r W (by unfold maxLen; omega) (by unfold maxLen; omega))
    rw [h2] at HC
    unfold decV recV at *
    have h4' : (nx : Int) ≤ (m.size : Int) := by omega
    go_enter Try.func7, Try.ntmps7
    go_wp2_with fail
    refine (HA.out _).mono ?_
    rintro e w1 ⟨rfl, k1⟩
    have K := k1.alloc (.cells #[.string r.n, .int .i64 r.t, .int .i64 r.c, .int .i64 r.l, .string r.d] 24)
    go_wp2_with fail
    refine (HC.out _).mono ?_
    rintro e w2 ⟨rfl, k2⟩
    go_wp2_with fail
    refine (live6_any _).mono ?_
    rintro e w3 ⟨rfl, k4⟩
    go_wp2
    go_ret
    exact ⟨rfl, (K.trans k2).trans k4⟩
end Go.Proofs.Ythoominldliphaa
