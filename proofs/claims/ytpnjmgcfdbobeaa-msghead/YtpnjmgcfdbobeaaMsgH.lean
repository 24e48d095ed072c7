/- The head of a message that Encode wrote: what MsgHead leans on. -/
import Derived.Test.YtpnjmgcfdbobeaaLMsgBack
import Derived.Test.YtpnjmgcfdbobeaaMsgM2
namespace Go.Proofs.Ytpnjmgcfdbobeaa
open Go.RowKit

theorem dec_head {s : ByteArray} (h : (decM s).2 = 0) : 12 ≤ s.size ∧ s.size ≤ 65535 ∧ (decM s).1.id = num s 0 ∧ (decM s).1.bits = num s 1 := by
  unfold decM at h ⊢
  by_cases h1 : 65535 < s.size
  · rw [if_pos h1] at h; simp at h
  rw [if_neg h1] at h ⊢
  by_cases h2 : s.size < 12
  · rw [if_pos h2] at h; simp at h
  rw [if_neg h2] at h ⊢
  refine ⟨by omega, by omega, ?_⟩
  unfold decT at h ⊢
  simp only at h ⊢
  repeat' split
  all_goals first | exact ⟨rfl, rfl⟩ | (exfalso; simp_all)
theorem head_none : headV ⟨#[]⟩ = .tuple #[.int .i64 0, .int .i64 0, .bool false] := by
  have h : ¬ 12 ≤ (⟨#[]⟩ : ByteArray).size := by decide
  simp [headV, hd, h]
theorem head_enc {m : Ms} (hok : msOk m = true) (hfit : ¬ 65535 < (encT m).size) : 12 ≤ (encT m).size ∧ headV (encT m) = .tuple #[.int .i64 m.id, .int .i64 m.bits, .bool true] := by
  have hd' := dec_same hok hfit
  obtain ⟨h1, _, h3, h4⟩ := dec_head (s := encT m) (by rw [hd'])
  rw [hd'] at h3 h4
  refine ⟨h1, ?_⟩
  rw [headV, hd_yes h1, hd_yes h1, ← h3, ← h4, decide_eq_true h1]

end Go.Proofs.Ytpnjmgcfdbobeaa
