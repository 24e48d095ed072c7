/- What is decoded of a message is decoded of each longer one; a message cut short is none: the mathematics of layer 8. No condition. -/
import Derived.Test.YtpnjmgcfdbobeaaMsgM
import Derived.Test.YtpnjmgcfdbobeaaMsgW4
namespace Go.Proofs.Ytpnjmgcfdbobeaa.Dt

theorem part_more {l t : List UInt8} {p n : Nat} (h : p + n ≤ l.length) : part (l ++ t) p n = part l p n := by
  rw [part, part, List.drop_append_of_le_length (by omega), List.take_append_of_le_length (by rw [List.length_drop]; omega)]
theorem rds_more (l t : List UInt8) : ∀ (k p : Nat) (x : List (List UInt8) × Nat), rds l k p = some x → rds (l ++ t) k p = some x
  | 0, p, x, h => h
  | k + 1, p, x, h => by
    simp only [rds] at h ⊢
    by_cases he : (Cm.readL l p).e = 0
    · rw [if_pos he] at h
      rw [Cm.read_more l t p he, if_pos he]
      rw [Option.map_eq_some_iff] at h ⊢
      obtain ⟨y, hy, rfl⟩ := h
      exact ⟨y, rds_more l t k _ y hy, rfl⟩
    · rw [if_neg he] at h; cases h
theorem take_more {l t : List UInt8} {p e : Nat} {s : Sh} {x : Pt} (he : e ≤ l.length) (h : takeL l p e s = some x) : takeL (l ++ t) p e s = some x := by
  unfold takeL at h ⊢
  by_cases h1 : p + s.a ≤ l.length
  · rw [if_pos h1] at h
    rw [if_pos (by rw [List.length_append]; omega)]
    rcases Option.eq_none_or_eq_some (rds l s.n (p + s.a)) with h2 | ⟨⟨ns, q⟩, h2⟩
    · rw [h2] at h; cases h
    · rw [h2] at h
      rw [rds_more l t _ _ _ h2]
      simp only at h ⊢
      by_cases h3 : q + s.b = e
      · rw [if_pos h3] at h ⊢
        rw [part_more h1, part_more (by omega)]
        exact h
      · rw [if_neg h3] at h; cases h
  · rw [if_neg h1] at h; cases h
theorem split_more {l t : List UInt8} {p n : Nat} {k : Int} {x : Pt} (hpn : p + n ≤ l.length) (h : splitL l p n k = some x) : splitL (l ++ t) p n k = some x := by
  unfold splitL at h ⊢
  by_cases h1 : 65535 < n
  · rw [if_pos h1] at h; cases h
  · rw [if_neg h1] at h ⊢
    cases hs : shp k with
    | some s =>
      rw [hs] at h
      exact take_more hpn h
    | none =>
      rw [hs] at h
      simp only at h ⊢
      rw [part_more hpn]
      exact h
theorem exp_more {l t : List UInt8} {p n k : Int} (h : (expL l p n k).e = 0) : expL (l ++ t) p n k = expL l p n k := by
  unfold expL at h ⊢
  by_cases h1 : inside l p n = true
  · have h1' := h1
    simp only [inside, decide_eq_true_eq] at h1'
    have h2 : inside (l ++ t) p n = true := by simp only [inside, decide_eq_true_eq, List.length_append]; omega
    rw [if_pos h1] at h ⊢
    rw [if_pos h2]
    rcases Option.eq_none_or_eq_some (splitL l p.toNat n.toNat k) with h3 | ⟨x, h3⟩
    · rw [h3] at h; simp at h
    · rw [h3, split_more (by omega) h3]
  · rw [if_neg h1] at h; simp at h
end Go.Proofs.Ytpnjmgcfdbobeaa.Dt

namespace Go.Proofs.Ytpnjmgcfdbobeaa
open Go.RowKit

theorem get_more {c s : ByteArray} {t : List UInt8} (hst : bl s = bl c ++ t) (p k : Nat) (h : p + k ≤ c.size) (hk : 1 ≤ k ∧ k ≤ 4) : Oct.getN s p k = Oct.getN c p k := by
  have hl : s.size = c.size + t.length := by rw [← bl_length, hst, List.length_append, bl_length]
  obtain ⟨a1, a2⟩ := takeS_bl c p k h
  obtain ⟨b1, b2⟩ := takeS_bl s p k (by omega)
  have g1 : Oct.getOk c p k = true := by rw [getOk_nat c p k (by omega) (by omega)]; exact decide_eq_true (by omega)
  have g2 : Oct.getOk s p k = true := by rw [getOk_nat s p k (by omega) (by omega)]; exact decide_eq_true (by omega)
  rw [Oct.getN, if_pos g2, Oct.getN, if_pos g1]
  have e : bl (Oct.takeS s p k) = bl (Oct.takeS c p k) := by
    rw [a2, b2, hst]
    exact Dt.part_more (by rw [bl_length]; exact h)
  exact congrArg Oct.numL e
theorem decB_more {c s n : ByteArray} {t : List UInt8} (hst : bl s = bl c ++ t) (i : Nat) (h : (decB c n i).e = 0) : decB s n i = decB c n i := by
  have hl : s.size = c.size + t.length := by rw [← bl_length, hst, List.length_append, bl_length]
  unfold decB at h ⊢
  by_cases h1 : i + 10 ≤ c.size
  · rw [if_pos h1] at h ⊢
    rw [if_pos (by omega)]
    have q1 := get_more hst i 2 (by omega) (by omega)
    have q2 := get_more hst (i + 2) 2 (by omega) (by omega)
    have q3 := get_more hst (i + 4) 4 (by omega) (by omega)
    have q4 := get_more hst (i + 8) 2 (by omega) (by omega)
    have q1' : Oct.getN s (i : Int) 2 = Oct.getN c (i : Int) 2 := q1
    have q2' : Oct.getN s ((i + 2 : Nat) : Int) 2 = Oct.getN c ((i + 2 : Nat) : Int) 2 := q2
    have q3' : Oct.getN s ((i + 4 : Nat) : Int) 4 = Oct.getN c ((i + 4 : Nat) : Int) 4 := q3
    have q4' : Oct.getN s ((i + 8 : Nat) : Int) 2 = Oct.getN c ((i + 8 : Nat) : Int) 2 := q4
    simp only at h ⊢
    rw [q1', q2', q3', q4', hst]
    by_cases he : (Dt.expL (bl c) ((i + 10 : Nat) : Int) (Oct.getN c ((i + 8 : Nat) : Int) 2) (Oct.getN c (i : Int) 2)).e = 0
    · rw [Dt.exp_more he]
    · rw [if_neg he] at h
      exact absurd h he
  · rw [if_neg h1] at h; simp [badD] at h
theorem decR_more {c s : ByteArray} {t : List UInt8} (hst : bl s = bl c ++ t) (p : Int) (h : (decR c p).e = 0) : decR s p = decR c p := by
  unfold decR at h ⊢
  by_cases he : (Cm.readL (bl c) p).e = 0
  · rw [if_pos he] at h ⊢
    rw [hst, Cm.read_more _ t p he, if_pos he]
    exact decB_more hst _ h
  · rw [if_neg he] at h; exact absurd h he
theorem decR1_more {c s : ByteArray} {t : List UInt8} (hst : bl s = bl c ++ t) (p : Nat) (h : (decR1 c p).e = 0) : decR1 s p = decR1 c p := by
  have : decR s p = decR c p := decR_more hst p h
  rw [decR1, decR1, this]
theorem decQ_more {c s : ByteArray} {t : List UInt8} (hst : bl s = bl c ++ t) (p : Nat) (h : (decQ c p).e = 0) : decQ s p = decQ c p := by
  have hl : s.size = c.size + t.length := by rw [← bl_length, hst, List.length_append, bl_length]
  unfold decQ at h ⊢
  by_cases he : (Cm.readL (bl c) p).e = 0
  · rw [if_pos he] at h ⊢
    rw [hst, Cm.read_more _ t p he, if_pos he]
    by_cases h2 : (Cm.readL (bl c) p).next + 4 ≤ c.size
    · rw [if_pos h2, if_pos (by omega)]
      have q1 : Oct.getN s ((Cm.readL (bl c) p).next : Int) 2 = Oct.getN c ((Cm.readL (bl c) p).next : Int) 2 := get_more hst _ 2 (by omega) (by omega)
      have q2 : Oct.getN s (((Cm.readL (bl c) p).next + 2 : Nat) : Int) 2 = Oct.getN c (((Cm.readL (bl c) p).next + 2 : Nat) : Int) 2 := get_more hst _ 2 (by omega) (by omega)
      rw [q1, q2]
    · rw [if_neg h2] at h; simp at h
  · rw [if_neg he] at h; exact absurd h he
theorem decL_more {α : Type} (f g : Nat → D1 α) (hfg : ∀ p, (f p).e = 0 → g p = f p) : ∀ (k p : Nat), (decL f k p).e = 0 → decL g k p = decL f k p
  | 0, p, _ => rfl
  | k + 1, p, h => by
    simp only [decL] at h ⊢
    by_cases h1 : (f p).e = 0
    · rw [if_pos h1] at h ⊢
      rw [hfg p h1, if_pos h1]
      by_cases h2 : (decL f k (f p).next).e = 0
      · rw [decL_more f g hfg k _ h2]
      · rw [if_neg h2] at h; exact absurd h h2
    · rw [if_neg h1] at h; exact absurd h h1
theorem num_more {c s : ByteArray} {t : List UInt8} (hst : bl s = bl c ++ t) (i : Nat) (h : 2 * i + 2 ≤ c.size) : num s i = num c i := get_more hst (2 * i) 2 h (by omega)

/-- A message that is decoded is decoded of no longer one: there bytes are left. -/
theorem dec_longer {c s : ByteArray} {t : List UInt8} (hst : bl s = bl c ++ t) (ht : t ≠ []) (hs : s.size ≤ 65535) (h : (decM c).2 = 0) : decM s = (noMs, 5) := by
  have hl : s.size = c.size + t.length := by rw [← bl_length, hst, List.length_append, bl_length]
  have htl : 0 < t.length := List.length_pos_iff.2 ht
  have h12 : 12 ≤ c.size := by
    rcases Nat.lt_or_ge c.size 12 with h1 | h1
    · rw [decM, if_neg (by omega), if_pos h1] at h; simp at h
    · exact h1
  have hc : decM c = decT c := by rw [decM, if_neg (by omega), if_neg (by omega)]
  have hS : decM s = decT s := by rw [decM, if_neg (by omega), if_neg (by omega)]
  rw [hc] at h
  rw [hS]
  unfold decT at h ⊢
  rw [num_more hst 2 (by omega), num_more hst 3 (by omega), num_more hst 4 (by omega), num_more hst 5 (by omega)]
  simp only at h ⊢
  by_cases e1 : (decL (decQ c) (num c 2).toNat 12).e = 0
  · rw [if_neg (by simp [e1])] at h
    rw [decL_more (decQ c) (decQ s) (fun p => decQ_more hst p) _ _ e1, if_neg (by simp [e1])]
    generalize decL (decQ c) (num c 2).toNat 12 = Q at *
    by_cases e2 : (decL (decR1 c) (num c 3).toNat Q.next).e = 0
    · rw [if_neg (by simp [e2])] at h
      rw [decL_more (decR1 c) (decR1 s) (fun p => decR1_more hst p) _ _ e2, if_neg (by simp [e2])]
      generalize decL (decR1 c) (num c 3).toNat Q.next = A at *
      by_cases e3 : (decL (decR1 c) (num c 4).toNat A.next).e = 0
      · rw [if_neg (by simp [e3])] at h
        rw [decL_more (decR1 c) (decR1 s) (fun p => decR1_more hst p) _ _ e3, if_neg (by simp [e3])]
        generalize decL (decR1 c) (num c 4).toNat A.next = N at *
        by_cases e4 : (decL (decR1 c) (num c 5).toNat N.next).e = 0
        · rw [if_neg (by simp [e4])] at h
          rw [decL_more (decR1 c) (decR1 s) (fun p => decR1_more hst p) _ _ e4, if_neg (by simp [e4])]
          generalize decL (decR1 c) (num c 5).toNat N.next = R at *
          by_cases e5 : R.next = c.size
          · rw [if_pos (by omega)]
          · rw [if_pos e5] at h; simp at h
        · rw [if_pos e4] at h; exact absurd h e4
      · rw [if_pos e3] at h; exact absurd h e3
    · rw [if_pos e2] at h; exact absurd h e2
  · rw [if_pos e1] at h; exact absurd h e1
/-- What is not decoded is the zero message. -/
theorem dec_zero {c : ByteArray} (h : ¬ (decM c).2 = 0) : (decM c).1 = noMs := by
  unfold decM at h ⊢
  split
  · rfl
  · rename_i h1
    rw [if_neg h1] at h
    split
    · rfl
    · rename_i h2
      rw [if_neg h2] at h
      unfold decT at h ⊢
      simp only at h ⊢
      repeat' split
      all_goals first | rfl | (exfalso; simp_all)
end Go.Proofs.Ytpnjmgcfdbobeaa
