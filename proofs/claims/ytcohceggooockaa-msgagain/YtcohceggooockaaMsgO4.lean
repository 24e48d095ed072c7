/- What is decoded may be; encoded and decoded again it has the letters of the first question's name. No condition. -/
import Derived.Test.YtcohceggooockaaMsgO3
import Derived.Test.YtcohceggooockaaRecMay
namespace Go.Proofs.Ytcohceggooockaa
open Go.RowKit

theorem num_small8 (m : ByteArray) (i : Nat) : 0 ≤ num m i ∧ num m i ≤ 65535 := get_small m _
theorem num2_get (m : ByteArray) (p : Int) : num2 (Oct.getN m p 2) = true := by
  have := get_small m p
  simp only [num2, decide_eq_true_eq]
  omega
theorem decQ_may (m : ByteArray) (p : Nat) (h : (decQ m p).e = 0) : qnOk (decQ m p).x = true := by
  unfold decQ at h ⊢
  by_cases h1 : (Cm.readL (bl m) p).e = 0
  · rw [if_pos h1] at h ⊢
    by_cases h2 : (Cm.readL (bl m) p).next + 4 ≤ m.size
    · rw [if_pos h2]
      have hk : Nm.okL (bl (rrS (Cm.readL (bl m) p))) = true := by
        rcases Cm.read_names (bl m) p with h3 | h3 | ⟨n, k, h3, h4, _⟩
        · rw [h3] at h1; simp [Cm.bad] at h1
        · rw [h3] at h1; simp [Cm.bad] at h1
        · rw [h3, rrS, bl_mk]
          exact h4
      show (Nm.okL _ && num2 _ && num2 _) = true
      rw [hk, num2_get, num2_get]
      rfl
    · rw [if_neg h2] at h
      simp at h
  · rw [if_neg h1] at h
    exact absurd h h1
theorem decR_ok (m : ByteArray) (p : Nat) (h : (decR1 m p).e = 0) : recOk (decR1 m p).x = true := by
  rcases dec_may m p with ⟨h1, _⟩ | ⟨_, h2, _⟩
  · exact absurd h h1
  · exact h2
theorem decL_good {α : Type} (f : Nat → D1 α) (P : α → Bool) (hf : ∀ p, (f p).e = 0 → P (f p).x = true) : ∀ (k p : Nat), (decL f k p).e = 0 → (decL f k p).xs.length = k ∧ (decL f k p).xs.all P = true
  | 0, _, _ => by simp [decL]
  | k + 1, p, h => by
    simp only [decL] at h ⊢
    by_cases h1 : (f p).e = 0
    · rw [if_pos h1] at h ⊢
      by_cases h2 : (decL f k (f p).next).e = 0
      · obtain ⟨i1, i2⟩ := decL_good f P hf k _ h2
        rw [if_pos h2]
        simp [i1, i2, hf p h1]
      · rw [if_neg h2] at h
        exact absurd h h2
    · rw [if_neg h1] at h
      exact absurd h h1
theorem sect_ok (m : ByteArray) (i p : Nat) (h : (decL (decR1 m) (num m i).toNat p).e = 0) : rsOk (decL (decR1 m) (num m i).toNat p).xs = true := by
  obtain ⟨h1, h2⟩ := decL_good (decR1 m) recOk (decR_ok m) _ _ h
  have hs := num_small8 m i
  rw [rsOk, h2, h1, Bool.and_true]
  simp only [num2, decide_eq_true_eq]
  omega
/-- What is decoded may be. -/
theorem decM_ok (s : ByteArray) (h : (decM s).2 = 0) : msOk (decM s).1 = true := by
  unfold decM at h ⊢
  by_cases h1 : 65535 < s.size
  · rw [if_pos h1] at h; simp at h
  rw [if_neg h1] at h ⊢
  by_cases h2 : s.size < 12
  · rw [if_pos h2] at h; simp at h
  rw [if_neg h2] at h ⊢
  unfold decT at h ⊢
  simp only at h ⊢
  by_cases e1 : (decL (decQ s) (num s 2).toNat 12).e = 0
  · have q1 := decL_good (decQ s) qnOk (decQ_may s) _ _ e1
    have q2 := num_small8 s 2
    generalize decL (decQ s) (num s 2).toNat 12 = Q at *
    rw [if_neg (by simp [e1])] at h ⊢
    by_cases e2 : (decL (decR1 s) (num s 3).toNat Q.next).e = 0
    · have a1 := sect_ok s 3 _ e2
      generalize decL (decR1 s) (num s 3).toNat Q.next = A at *
      rw [if_neg (by simp [e2])] at h ⊢
      by_cases e3 : (decL (decR1 s) (num s 4).toNat A.next).e = 0
      · have n1 := sect_ok s 4 _ e3
        generalize decL (decR1 s) (num s 4).toNat A.next = N at *
        rw [if_neg (by simp [e3])] at h ⊢
        by_cases e4 : (decL (decR1 s) (num s 5).toNat N.next).e = 0
        · have r1 := sect_ok s 5 _ e4
          generalize decL (decR1 s) (num s 5).toNat N.next = R at *
          rw [if_neg (by simp [e4])] at h ⊢
          by_cases e5 : R.next = s.size
          · rw [if_neg (by simp [e5])]
            rw [msOk_parts]
            simp only
            have hq : qsOk Q.xs = true := by
              rw [qsOk, q1.2, q1.1, Bool.and_true]
              simp only [num2, decide_eq_true_eq]
              omega
            have hn0 : num2 (num s 0) = true := num2_get s _
            have hn1 : num2 (num s 1) = true := num2_get s _
            rw [hq, a1, n1, r1, hn0, hn1]
            rfl
          · rw [if_pos e5] at h
            simp at h
        · rw [if_pos e4] at h
          exact absurd h e4
      · rw [if_pos e3] at h
        exact absurd h e3
    · rw [if_pos e2] at h
      exact absurd h e2
  · rw [if_pos e1] at h
    exact absurd h e1
theorem decM_bad (s : ByteArray) (h : ¬ (decM s).2 = 0) : (decM s).1 = noMs := by
  unfold decM at h ⊢
  by_cases h1 : 65535 < s.size
  · rw [if_pos h1]
  rw [if_neg h1] at h ⊢
  by_cases h2 : s.size < 12
  · rw [if_pos h2]
  rw [if_neg h2] at h ⊢
  unfold decT at h ⊢
  simp only at h ⊢
  by_cases e1 : (decL (decQ s) (num s 2).toNat 12).e = 0
  · generalize decL (decQ s) (num s 2).toNat 12 = Q at *
    rw [if_neg (by simp [e1])] at h ⊢
    by_cases e2 : (decL (decR1 s) (num s 3).toNat Q.next).e = 0
    · generalize decL (decR1 s) (num s 3).toNat Q.next = A at *
      rw [if_neg (by simp [e2])] at h ⊢
      by_cases e3 : (decL (decR1 s) (num s 4).toNat A.next).e = 0
      · generalize decL (decR1 s) (num s 4).toNat A.next = N at *
        rw [if_neg (by simp [e3])] at h ⊢
        by_cases e4 : (decL (decR1 s) (num s 5).toNat N.next).e = 0
        · generalize decL (decR1 s) (num s 5).toNat N.next = R at *
          rw [if_neg (by simp [e4])] at h ⊢
          by_cases e5 : R.next = s.size
          · rw [if_neg (by simp [e5])] at h
            exact absurd rfl h
          · rw [if_pos e5]
        · rw [if_pos e4]
      · rw [if_pos e3]
    · rw [if_pos e2]
  · rw [if_pos e1]
theorem baseS_ok {m : Ms} (h : msOk m = true) : Nm.okL (bl (baseS m)) = true := by
  simp only [msOk, Bool.and_eq_true, List.all_eq_true] at h
  obtain ⟨⟨⟨⟨_, _, q2⟩, _⟩, _⟩, _⟩ := h
  unfold baseS
  split
  · decide +kernel
  · rename_i q qs hq
    have := q2 q (by rw [hq]; simp)
    simp only [qnOk, Bool.and_eq_true] at this
    exact this.1.1
theorem relR_endR {base : ByteArray} {r : Rec} (hb : Nm.okL (bl base) = true) (hr : recOk r = true) : relR base r = endR base r := by
  have hn := ((recOk_spec r).1 hr).1
  have h : encOk base 12 r = true := by
    rw [encOk, hr, Bool.true_and, Cm.wrOk, hb, hn]
    rfl
  obtain ⟨h1, h2, h3, h4, _⟩ := relR_spec h
  have h5 := relR_name h
  rw [endR, Cm.endW_eq _ _ hb hn]
  generalize relR base r = x at *
  obtain ⟨a, b, c, d, e⟩ := x
  simp only at h1 h2 h3 h4 h5
  subst h1 h2 h3 h4 h5
  rfl
theorem enc_bytes8 {m : Ms} (hok : msOk m = true) (hfit : ¬ 65535 < (encT m).size) : bl (encT m) = bl (Oct.putS m.id (2 : Nat)) ++ (bl (encT m)).drop 2 := by
  have hi : num2 m.id = true := by simp only [msOk, Bool.and_eq_true] at hok; exact hok.1.1.1.1.1
  have h : bl (encT m) = bl (Oct.putS m.id (2 : Nat)) ++ (bl (encT m)).drop (bl (Oct.putS m.id (2 : Nat))).length := by
    have hp : ∃ y, bl (encT m) = bl (Oct.putS m.id (2 : Nat)) ++ y := by
      rw [encT, appR_full _ _ _ hfit, appQ_full, headS]
      simp only [bl_append, List.append_assoc]
      exact ⟨_, rfl⟩
    obtain ⟨y, hy⟩ := hp
    rw [hy, List.drop_left]
  rwa [put_bl_len (num_ok' hi)] at h
/-- Encoded and decoded again. -/
theorem dec_again {m : Ms} (hok : msOk m = true) (hfit : ¬ 65535 < (encT m).size) : decM (encT m) = (againM m, 0) := by
  have hb := baseS_ok hok
  have hok' := hok
  simp only [msOk, Bool.and_eq_true, List.all_eq_true] at hok'
  obtain ⟨⟨⟨⟨⟨i1, i2⟩, q1, q2⟩, a1, a2⟩, n1, n2⟩, r1, r2⟩ := hok'
  have hd := dec_msg m hok hfit m.id i1 (encT m) (enc_bytes8 hok hfit)
  rw [hd, againM]
  have e : ∀ l : List Rec, (∀ r ∈ l, recOk r = true) → l.map (relR (baseS m)) = l.map (endR (baseS m)) := fun l h => List.map_congr_left fun r hr => relR_endR hb (h r hr)
  rw [e _ a2, e _ n2, e _ r2]
end Go.Proofs.Ytcohceggooockaa
