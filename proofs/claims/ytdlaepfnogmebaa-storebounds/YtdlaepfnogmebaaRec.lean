/- Plain functions on bytes: what layer 6 tells. No condition. What Check of layer 6, and the document's, answer, for every input. What number and Decode of layer 6 answer, for every input. What aheadOfTime, Encode, TTL of layer 6, and the document's, answer, for every input. What the document's Decode, Encode, TTL of layer 6 answer. What is encoded is decoded: the mathematics of layer 6. No condition. -/
import Derived.Test.YtdlaepfnogmebaaData
import Derived.Test.YtdlaepfnogmebaaComp
import Derived.Test.YtdlaepfnogmebaaNames
import Derived.Test.YtdlaepfnogmebaaOct
import Derived.Deep.RegionHeld3
import Derived.BigRegion
namespace Go.Proofs.Ytdlaepfnogmebaa
open Go.RowKit

/-- A record. -/
structure Rec where
  n : ByteArray
  t : Int
  c : Int
  l : Int
  d : ByteArray
  deriving DecidableEq
def noRec : Rec := ⟨⟨#[]⟩, 0, 0, 0, ⟨#[]⟩⟩
def recV (r : Rec) : Value := .agg #[.string r.n, .int .i64 r.t, .int .i64 r.c, .int .i64 r.l, .string r.d]
def num2 (x : Int) : Bool := decide (0 ≤ x ∧ x ≤ 65535)
def recOk (r : Rec) : Bool := Nm.okL (bl r.n) && num2 r.t && num2 r.c && decide (0 ≤ r.l ∧ r.l ≤ 2147483647) && Dt.checkB r.t (bl r.d)
/-- What Decode answers. -/
structure DR where
  r : Rec
  next : Nat
  e : Nat
def badD (e : Nat) : DR := ⟨noRec, 0, e⟩
def ttlOf (x : Int) : Int := if 2147483647 < x then 0 else x
/-- What stands behind a name that was read. -/
def decB (m n : ByteArray) (i : Nat) : DR :=
  if i + 10 ≤ m.size then
    let E := Dt.expL (bl m) (i + 10 : Nat) (Oct.getN m (i + 8 : Nat) 2) (Oct.getN m i 2)
    if E.e = 0 then ⟨⟨n, Oct.getN m i 2, Oct.getN m (i + 2 : Nat) 2, ttlOf (Oct.getN m (i + 4 : Nat) 4), erS E⟩, i + 10 + (Oct.getN m (i + 8 : Nat) 2).toNat, 0⟩ else badD E.e
  else badD 2
def decR (m : ByteArray) (p : Int) : DR :=
  if (Cm.readL (bl m) p).e = 0 then decB m (rrS (Cm.readL (bl m) p)) (Cm.readL (bl m) p).next else badD (Cm.readL (bl m) p).e
/-- What stands behind a record's name: its numbers and its data. -/
def recB (r : Rec) : ByteArray := Oct.putS r.t 2 ++ Oct.putS r.c 2 ++ Oct.putS r.l 4 ++ Oct.putS r.d.size 2 ++ r.d
def encOk (base : ByteArray) (p : Int) (r : Rec) : Bool := recOk r && Cm.wrOk (bl base) p (bl r.n)
def encS (base : ByteArray) (p : Int) (r : Rec) : ByteArray := if encOk base p r = true then wrS base p r.n ++ recB r else ⟨#[]⟩
def ttlAt (base : ByteArray) (p : Int) (r : Rec) : Int := if encOk base p r = true then (wrS base p r.n).size + 4 else -1

theorem recOk_spec (r : Rec) : recOk r = true ↔ Nm.okL (bl r.n) = true ∧ (0 ≤ r.t ∧ r.t ≤ 65535) ∧ (0 ≤ r.c ∧ r.c ≤ 65535) ∧ (0 ≤ r.l ∧ r.l ≤ 2147483647) ∧ Dt.checkB r.t (bl r.d) = true := by
  simp [recOk, num2, and_assoc]
theorem wrL_len {base n : List UInt8} {a : Nat} (hb : Nm.okL base = true) (hn : Nm.okL n = true) (ha : a ≤ 16000) : (Cm.wrL base a n).length ≤ n.length ∧ 0 < (Cm.wrL base a n).length := by
  have e : (List.replicate a (0 : UInt8) ++ (base ++ Cm.wrL base a n)).drop a = base ++ Cm.wrL base a n := by
    have h : (List.replicate a (0 : UInt8)).length = a := by simp
    conv => lhs; arg 1; rw [← h]
    exact List.drop_left
  obtain ⟨k, _, _, h3, h4⟩ := Cm.read_written (List.replicate a 0 ++ (base ++ Cm.wrL base a n)) base n a (a + base.length) (Cm.wrL base a n) [] hb hn ha e (Nat.le_refl _)
    (by rw [← List.drop_drop, e, List.drop_left, List.append_nil])
  exact ⟨h3, h4⟩
theorem wr_pos {base : ByteArray} {p : Int} {n : ByteArray} (h : Cm.wrOk (bl base) p (bl n) = true) : 0 < (wrS base p n).size ∧ (wrS base p n).size ≤ 255 := by
  have h2 := (wrOk_spec _ _ _).1 h
  have e : (wrS base p n).size = (Cm.wrL (bl base) p.toNat (bl n)).length := by rw [wrS, if_pos h, ← bl_length, bl_mk]
  rw [e]
  have hn := Dt.ok_len h2.1.2
  have := wrL_len (a := p.toNat) h2.1.1 h2.1.2 (by omega)
  omega
theorem wr_none {base : ByteArray} {p : Int} {n : ByteArray} : wrS base p n = ⟨#[]⟩ ↔ Cm.wrOk (bl base) p (bl n) = false := by
  constructor
  · intro h
    cases ho : Cm.wrOk (bl base) p (bl n)
    · rfl
    · have := (wr_pos ho).1
      rw [h] at this
      exact absurd this (by decide)
  · exact wrS_no
theorem decB_e (m n : ByteArray) (i : Nat) : (decB m n i).e = 0 ∨ (decB m n i).e = 2 ∨ (decB m n i).e = 4 := by
  unfold decB
  split
  · simp only
    split
    · exact .inl rfl
    · rename_i h
      have : ∀ (l : List UInt8) p k t, (Dt.expL l p k t).e = 0 ∨ (Dt.expL l p k t).e = 2 ∨ (Dt.expL l p k t).e = 4 := by
        intro l p k t
        unfold Dt.expL
        split
        · split <;> simp
        · simp
      exact this _ _ _ _
  · exact .inr (.inl rfl)
end Go.Proofs.Ytdlaepfnogmebaa

namespace Go.Proofs.Ytdlaepfnogmebaa
open Go.RowKit

/-- The five cells of a record that was boxed in block G. -/
def Box5 (G : Nat) (p q r s t : Value) (w : World) : Prop :=
  w.cell? ⟨G, 0, none⟩ = some p ∧ w.cell? ⟨G, 1, none⟩ = some q ∧ w.cell? ⟨G, 2, none⟩ = some r ∧ w.cell? ⟨G, 3, none⟩ = some s ∧ w.cell? ⟨G, 4, none⟩ = some t ∧ G < w.heap.size
theorem Box5.keeps {G : Nat} {p q r s t : Value} {w w' : World} (h : Box5 G p q r s t w) (hk : Keeps w w') : Box5 G p q r s t w' :=
  have g := h.2.2.2.2.2
  ⟨(hk.cell (p := ⟨G, 0, none⟩) g).trans h.1, (hk.cell (p := ⟨G, 1, none⟩) g).trans h.2.1, (hk.cell (p := ⟨G, 2, none⟩) g).trans h.2.2.1, (hk.cell (p := ⟨G, 3, none⟩) g).trans h.2.2.2.1, (hk.cell (p := ⟨G, 4, none⟩) g).trans h.2.2.2.2.1, Nat.lt_of_lt_of_le g hk.size⟩
theorem Box5.made (w : World) (p q r s t : Value) (ty : TypeId) : Box5 w.heap.size p q r s t (w.alloc (.cells #[p, q, r, s, t] ty)) := by
  refine ⟨?_, ?_, ?_, ?_, ?_, by simp⟩
  · exact (World.cell?_alloc_mark w _ _ (0, 0) 0).trans rfl
  · exact (World.cell?_alloc_mark w _ _ (0, 0) 1).trans rfl
  · exact (World.cell?_alloc_mark w _ _ (0, 0) 2).trans rfl
  · exact (World.cell?_alloc_mark w _ _ (0, 0) 3).trans rfl
  · exact (World.cell?_alloc_mark w _ _ (0, 0) 4).trans rfl

theorem isNumber_any (x : Int) (w : World) :
    Calls Try.prog 129 #[.int .i64 x] w fun e w' => e = .returned (.bool (num2 x)) ∧ w' = w := by
  by_cases h0 : 0 ≤ x
  · by_cases h1 : x ≤ 65535
    · go_enter Try.func129, Try.ntmps129
      go_wp2
      go_ret
      exact ⟨ret_bool (by simp only [num2]; exact (decide_eq_true (by omega)).symm), rfl⟩
    · go_enter Try.func129, Try.ntmps129
      go_wp2
      go_ret
      exact ⟨ret_bool (by simp only [num2]; exact (decide_eq_false (by omega)).symm), rfl⟩
  · go_enter Try.func129, Try.ntmps129
    go_wp2
    go_ret
    exact ⟨ret_bool (by simp only [num2]; exact (decide_eq_false (by omega)).symm), rfl⟩

set_option maxHeartbeats 2000000 in
theorem rcheck_any (r : Rec) (w : World) (hn : r.n.size ≤ maxLen) (hd : r.d.size ≤ maxLen) :
    Calls Try.prog 110 #[recV r] w fun e w' => e = .returned (.bool (recOk r)) ∧ Keeps w w' := by
  obtain ⟨n, t, c, l, d⟩ := r
  simp only at hn hd
  unfold recV
  have B0 := Box5.made w (.string n) (.int .i64 t) (.int .i64 c) (.int .i64 l) (.string d) 161
  have K := (Keeps.refl w).alloc (.cells #[.string n, .int .i64 t, .int .i64 c, .int .i64 l, .string d] 161)
  cases h1 : Nm.okL (bl n)
  · have HF : Hid (recOk ⟨n, t, c, l, d⟩ = false) := by simp [Hid, recOk, num2, h1]
    go_enter Try.func110, Try.ntmps110
    go_wp2_with fail
    refine (check_any _ _ hn).mono ?_
    rintro e wk ⟨rfl, hw⟩
    subst hw
    rw [h1]
    go_wp2
    go_ret
    exact ⟨ret_bool HF.out.symm, K⟩
  cases h2 : num2 t
  · have HF : Hid (recOk ⟨n, t, c, l, d⟩ = false) := by simp [Hid, recOk, h2]
    go_enter Try.func110, Try.ntmps110
    go_wp2_with fail
    refine (check_any _ _ hn).mono ?_
    rintro e wk ⟨rfl, hw⟩
    subst hw
    rw [h1]
    go_wp2_with fail
    refine (isNumber_any _ _).mono ?_
    rintro e wk ⟨rfl, hw⟩
    subst hw
    rw [h2]
    go_wp2
    go_ret
    exact ⟨ret_bool HF.out.symm, K⟩
  cases h3 : num2 c
  · have HF : Hid (recOk ⟨n, t, c, l, d⟩ = false) := by simp [Hid, recOk, h3]
    go_enter Try.func110, Try.ntmps110
    go_wp2_with fail
    refine (check_any _ _ hn).mono ?_
    rintro e wk ⟨rfl, hw⟩
    subst hw
    rw [h1]
    go_wp2_with fail
    refine (isNumber_any _ _).mono ?_
    rintro e wk ⟨rfl, hw⟩
    subst hw
    rw [h2]
    go_wp2_with fail
    refine (isNumber_any _ _).mono ?_
    rintro e wk ⟨rfl, hw⟩
    subst hw
    rw [h3]
    go_wp2
    go_ret
    exact ⟨ret_bool HF.out.symm, K⟩
  by_cases h4 : ¬ 0 ≤ l
  · have HF : Hid (recOk ⟨n, t, c, l, d⟩ = false) := by simp [Hid, recOk, h4]
    go_enter Try.func110, Try.ntmps110
    go_wp2_with fail
    refine (check_any _ _ hn).mono ?_
    rintro e wk ⟨rfl, hw⟩
    subst hw
    rw [h1]
    go_wp2_with fail
    refine (isNumber_any _ _).mono ?_
    rintro e wk ⟨rfl, hw⟩
    subst hw
    rw [h2]
    go_wp2_with fail
    refine (isNumber_any _ _).mono ?_
    rintro e wk ⟨rfl, hw⟩
    subst hw
    rw [h3]
    go_wp2
    go_ret
    exact ⟨ret_bool HF.out.symm, K⟩
  replace h4 := Decidable.not_not.1 h4
  by_cases h5 : ¬ l ≤ 2147483647
  · have HF : Hid (recOk ⟨n, t, c, l, d⟩ = false) := by simp [Hid, recOk, h5]
    go_enter Try.func110, Try.ntmps110
    go_wp2_with fail
    refine (check_any _ _ hn).mono ?_
    rintro e wk ⟨rfl, hw⟩
    subst hw
    rw [h1]
    go_wp2_with fail
    refine (isNumber_any _ _).mono ?_
    rintro e wk ⟨rfl, hw⟩
    subst hw
    rw [h2]
    go_wp2_with fail
    refine (isNumber_any _ _).mono ?_
    rintro e wk ⟨rfl, hw⟩
    subst hw
    rw [h3]
    go_wp2
    go_ret
    exact ⟨ret_bool HF.out.symm, K⟩
  replace h5 := Decidable.not_not.1 h5
  have HF : Hid (recOk ⟨n, t, c, l, d⟩ = Dt.checkB t (bl d)) := by simp [Hid, recOk, h1, h2, h3, h4, h5]
  go_enter Try.func110, Try.ntmps110
  go_wp2_with fail
  refine (check_any _ _ hn).mono ?_
  rintro e wk ⟨rfl, hw⟩
  subst hw
  rw [h1]
  go_wp2_with fail
  refine (isNumber_any _ _).mono ?_
  rintro e wk ⟨rfl, hw⟩
  subst hw
  rw [h2]
  go_wp2_with fail
  refine (isNumber_any _ _).mono ?_
  rintro e wk ⟨rfl, hw⟩
  subst hw
  rw [h3]
  go_wp2_with fail
  refine (dcheck_any _ _ _ hd).mono ?_
  rintro e wk ⟨rfl, k1⟩
  replace K := K.trans k1
  rw [← HF.out]
  go_wp2
  go_ret
  exact ⟨rfl, K⟩

end Go.Proofs.Ytdlaepfnogmebaa

namespace Go.Proofs.Ytdlaepfnogmebaa
open Go.RowKit

/-- The three cells of a reader in block G, which may be written. -/
def Rd3 (G : Nat) (m : ByteArray) (p : Int) (c : Bool) (w : World) : Prop :=
  w.cell? ⟨G, 0, none⟩ = some (.string m) ∧ w.cell? ⟨G, 1, none⟩ = some (.int .i64 p) ∧ w.cell? ⟨G, 2, none⟩ = some (.bool c) ∧ w.frozen? ⟨G, 1, none⟩ = false ∧ w.frozen? ⟨G, 2, none⟩ = false ∧ G < w.heap.size
theorem Rd3.drew {G : Nat} {m : ByteArray} {p : Int} {c : Bool} {w : World} (h : Rd3 G m p c w) : Rd3 G m p c w.drew := h
theorem Rd3.at {G : Nat} {m : ByteArray} {p : Int} {c : Bool} {w : World} (h : Rd3 G m p c w) (q : Int) : Rd3 G m q c (w.setCell ⟨G, 1, none⟩ (.int .i64 q)) := by
  obtain ⟨h0, h1, h2, h3, h4, h5⟩ := h
  refine ⟨?_, ?_, ?_, ?_, ?_, ?_⟩ <;> go_simp
theorem Rd3.cut {G : Nat} {m : ByteArray} {p : Int} {c : Bool} {w : World} (h : Rd3 G m p c w) (b : Bool) : Rd3 G m p b (w.setCell ⟨G, 2, none⟩ (.bool b)) := by
  obtain ⟨h0, h1, h2, h3, h4, h5⟩ := h
  refine ⟨?_, ?_, ?_, ?_, ?_, ?_⟩ <;> go_simp
theorem Rd3.made (w : World) (m : ByteArray) (p : Int) (c : Bool) (t : TypeId) : Rd3 w.heap.size m p c (w.alloc (.cells #[.string m, .int .i64 p, .bool c] t)) := by
  refine ⟨?_, ?_, ?_, ?_, ?_, ?_⟩ <;> go_simp

/-- The five cells of the answer's record, that may be written, and what is laid in them. -/
def Out5 (G : Nat) (w : World) : Prop :=
  (w.cell? ⟨G, 0, none⟩ = some (.string ⟨#[]⟩) ∧ w.cell? ⟨G, 1, none⟩ = some (.int .i64 0) ∧ w.cell? ⟨G, 2, none⟩ = some (.int .i64 0) ∧ w.cell? ⟨G, 3, none⟩ = some (.int .i64 0) ∧ w.cell? ⟨G, 4, none⟩ = some (.string ⟨#[]⟩)) ∧
  (w.frozen? ⟨G, 0, none⟩ = false ∧ w.frozen? ⟨G, 1, none⟩ = false ∧ w.frozen? ⟨G, 2, none⟩ = false ∧ w.frozen? ⟨G, 3, none⟩ = false ∧ w.frozen? ⟨G, 4, none⟩ = false) ∧ G < w.heap.size
theorem Out5.below {G B : Nat} {w w' : World} (h : Out5 G w) (hb : Below B w w') (hG : G < B) : Out5 G w' := by
  obtain ⟨⟨h0, h1, h2, h3, h4⟩, ⟨f0, f1, f2, f3, f4⟩, hg⟩ := h
  exact ⟨⟨(hb.cell (p := ⟨G, 0, none⟩) hG).trans h0, (hb.cell (p := ⟨G, 1, none⟩) hG).trans h1, (hb.cell (p := ⟨G, 2, none⟩) hG).trans h2, (hb.cell (p := ⟨G, 3, none⟩) hG).trans h3, (hb.cell (p := ⟨G, 4, none⟩) hG).trans h4⟩,
    ⟨(hb.frozen (p := ⟨G, 0, none⟩) hG).trans f0, (hb.frozen (p := ⟨G, 1, none⟩) hG).trans f1, (hb.frozen (p := ⟨G, 2, none⟩) hG).trans f2, (hb.frozen (p := ⟨G, 3, none⟩) hG).trans f3, (hb.frozen (p := ⟨G, 4, none⟩) hG).trans f4⟩, Nat.lt_of_lt_of_le hg hb.size⟩
theorem Out5.made (w : World) (t : TypeId) : Out5 w.heap.size (w.alloc (.cells #[.string ⟨#[]⟩, .int .i64 0, .int .i64 0, .int .i64 0, .string ⟨#[]⟩] t)) := by
  refine ⟨⟨?_, ?_, ?_, ?_, ?_⟩, ⟨?_, ?_, ?_, ?_, ?_⟩, ?_⟩ <;> go_simp

/-- What Decode does behind a name that was read, by the places as the code reckons them. -/
theorem decB_cut {m n : ByteArray} {i : Nat} (h : ¬ i + 10 ≤ m.size) : decB m n i = badD 2 := if_neg h
theorem decB_in {m n : ByteArray} {i : Nat} (h : i + 10 ≤ m.size) (E : Dt.ER) (hE : E = Dt.expL (bl m) ((i : Int) + 2 + 2 + 4 + 2) (Oct.getN m ((i : Int) + 2 + 2 + 4) 2) (Oct.getN m i 2)) :
    (E.e = 0 → decB m n i = ⟨⟨n, Oct.getN m i 2, Oct.getN m ((i : Int) + 2) 2, ttlOf (Oct.getN m ((i : Int) + 2 + 2) 4), erS E⟩, i + 10 + (Oct.getN m ((i : Int) + 2 + 2 + 4) 2).toNat, 0⟩) ∧ (E.e ≠ 0 → decB m n i = badD E.e) := by
  have q2 : ((i : Int) + 2) = ((i + 2 : Nat) : Int) := by omega
  have q4 : ((i : Int) + 2 + 2) = ((i + 4 : Nat) : Int) := by omega
  have q8 : ((i : Int) + 2 + 2 + 4) = ((i + 8 : Nat) : Int) := by omega
  have q10 : ((i : Int) + 2 + 2 + 4 + 2) = ((i + 10 : Nat) : Int) := by omega
  rw [q10, q8] at hE
  rw [q8, q4, q2]
  constructor
  · intro h0
    rw [decB, if_pos h]
    simp only [← hE]
    rw [if_pos h0]
  · intro h0
    rw [decB, if_pos h]
    simp only [← hE]
    rw [if_neg h0]
theorem getOk_nat (m : ByteArray) (p k : Int) (hp : 0 ≤ p) (hk : 1 ≤ k ∧ k ≤ 4) : Oct.getOk m p k = decide (p + k ≤ m.size) := by
  rw [Bool.eq_iff_iff, Oct.getOk_spec, Oct.takeOk_spec, decide_eq_true_eq]
  omega
theorem get_small (m : ByteArray) (p : Int) : 0 ≤ Oct.getN m p 2 ∧ Oct.getN m p 2 ≤ 65535 := by
  have h0 := (Oct.getN_bound m p 2).1
  refine ⟨h0, ?_⟩
  unfold Oct.getN
  split
  · rename_i h
    have h1 := ((Oct.getOk_spec _ _ _).1 h).2
    have h2 := Oct.takeS_size m p 2 h1
    have h3 := (Oct.numL_bound (Oct.takeS m p 2).data.toList).2
    have h4 : (Oct.takeS m p 2).data.toList.length = 2 := by
      have : (Oct.takeS m p 2).data.toList.length = (Oct.takeS m p 2).size := by rw [Array.length_toList]; rfl
      omega
    rw [h4] at h3
    have : (256 : Int) ^ 2 = 65536 := by decide
    omega
  · omega

/-- What comes of Decode. -/
def decV (r : DR) : Value := .tuple #[recV r.r, .int .i64 r.next, .int .i64 r.e]

end Go.Proofs.Ytdlaepfnogmebaa

namespace Go.Proofs.Ytdlaepfnogmebaa
open Go.RowKit

def aheadS (base : ByteArray) (p : Int) (r : Rec) : ByteArray := if encOk base p r = true then wrS base p r.n ++ Oct.putS r.t 2 ++ Oct.putS r.c 2 else ⟨#[]⟩
theorem ahead_no {base : ByteArray} {p : Int} {r : Rec} (h : encOk base p r = false) : aheadS base p r = ⟨#[]⟩ := by rw [aheadS, if_neg (by rw [h]; decide)]
theorem ahead_yes {base : ByteArray} {p : Int} {r : Rec} (h : encOk base p r = true) : aheadS base p r = wrS base p r.n ++ Oct.putS r.t 2 ++ Oct.putS r.c 2 := if_pos h
theorem put_len (n k : Int) : (Oct.putS n k).size ≤ 4 := putS_size n k

theorem enc_no {base : ByteArray} {p : Int} {r : Rec} (h : encOk base p r = false) : encS base p r = ⟨#[]⟩ ∧ ttlAt base p r = -1 := by
  constructor
  · rw [encS, if_neg (by rw [h]; decide)]
  · rw [ttlAt, if_neg (by rw [h]; decide)]
theorem app_assoc (a b c : ByteArray) : a ++ (b ++ c) = a ++ b ++ c := bl_inj (by simp [bl_append])
theorem enc_yes {base : ByteArray} {p : Int} {r : Rec} (h : encOk base p r = true) : encS base p r = aheadS base p r ++ Oct.putS r.l 4 ++ Oct.putS r.d.size 2 ++ r.d ∧ ttlAt base p r = (aheadS base p r).size ∧ (aheadS base p r).size ≤ 263 ∧ ((aheadS base p r).toList == []) = false ∧ encS base p r = wrS base p r.n ++ Oct.putS r.t 2 ++ Oct.putS r.c 2 ++ Oct.putS r.l 4 ++ Oct.putS r.d.size 2 ++ r.d := by
  have hs : recOk r = true ∧ Cm.wrOk (bl base) p (bl r.n) = true := by simpa [encOk] using h
  have hw := wr_pos hs.2
  have hr := (recOk_spec r).1 hs.1
  have p1 : (Oct.putS r.t 2).size = 2 := by
    rw [Oct.putS_yes _ _ (by rw [Oct.putOk_spec]; refine ⟨by decide, by decide, hr.2.1.1, ?_⟩; have := hr.2.1.2; simp; omega), ← bl_length, bl_mk, Oct.beL_length]; rfl
  have p2 : (Oct.putS r.c 2).size = 2 := by
    rw [Oct.putS_yes _ _ (by rw [Oct.putOk_spec]; refine ⟨by decide, by decide, hr.2.2.1.1, ?_⟩; have := hr.2.2.1.2; simp; omega), ← bl_length, bl_mk, Oct.beL_length]; rfl
  have hz : (aheadS base p r).size = (wrS base p r.n).size + 4 := by rw [ahead_yes h, ByteArray.size_append, ByteArray.size_append, p1, p2]
  have he : encS base p r = wrS base p r.n ++ Oct.putS r.t 2 ++ Oct.putS r.c 2 ++ Oct.putS r.l 4 ++ Oct.putS r.d.size 2 ++ r.d := by
    rw [encS, if_pos h, recB]; simp only [app_assoc]
  refine ⟨?_, ?_, by omega, ?_, he⟩
  · rw [he, ahead_yes h]
  · rw [ttlAt, if_pos h, hz]; simp
  · rw [toList_bl, beq_eq_false_iff_ne]
    intro hx
    have := bl_length (aheadS base p r)
    rw [hx] at this
    simp at this
    omega

end Go.Proofs.Ytdlaepfnogmebaa

namespace Go.Proofs.Ytdlaepfnogmebaa
open Go.RowKit

theorem decB_in2 {m n : ByteArray} {i : Nat} (h : i + 10 ≤ m.size) (E : Dt.ER) (hE : E = Dt.expL (bl m) ((i : Int) + 10) (Oct.getN m ((i : Int) + 8) 2) (Oct.getN m i 2)) :
    (E.e = 0 → decB m n i = ⟨⟨n, Oct.getN m i 2, Oct.getN m ((i : Int) + 2) 2, ttlOf (Oct.getN m ((i : Int) + 4) 4), erS E⟩, i + 10 + (Oct.getN m ((i : Int) + 8) 2).toNat, 0⟩) ∧ (E.e ≠ 0 → decB m n i = badD E.e) := by
  have q4 : ((i : Int) + 4) = (i : Int) + 2 + 2 := by omega
  have q8 : ((i : Int) + 8) = (i : Int) + 2 + 2 + 4 := by omega
  have q10 : ((i : Int) + 10) = (i : Int) + 2 + 2 + 4 + 2 := by omega
  rw [q10, q8] at hE
  rw [q8, q4]
  exact decB_in h E hE

end Go.Proofs.Ytdlaepfnogmebaa

namespace Go.Proofs.Ytdlaepfnogmebaa
open Go.RowKit

/-- Data that has its type's shape is taken apart as it stands, wherever it stands. -/
theorem split_at {l d y : List UInt8} {p : Nat} {k : Int} {x : Dt.Pt} (h : Dt.wholeL k d = some x) (hd : l.drop p = d ++ y) (hp : p ≤ l.length) : Dt.splitL l p d.length k = some x := by
  obtain ⟨h1, h2⟩ := Dt.wholeL_parts h
  have hlen : l.length - p = d.length + y.length := by
    have := congrArg List.length hd
    rw [List.length_drop, List.length_append] at this
    exact this
  rcases h2 with ⟨s, hs, hf⟩ | ⟨hs, hn, rfl, ht⟩
  · have hb := (Dt.fits_small hs hf).1
    obtain ⟨g1, g2, g3, g4⟩ := hf
    rw [h1] at hb
    have hj : d = x.a ++ (x.ns.flatten ++ x.b) := by rw [← h1, Dt.Pt.join, List.append_assoc]
    have hl1 : d.length = s.a + x.ns.flatten.length + s.b := by rw [hj]; simp only [List.length_append]; omega
    have hd1 : l.drop (p + s.a) = x.ns.flatten ++ (x.b ++ y) := by
      rw [← List.drop_drop, hd, hj, List.append_assoc, ← g1, List.drop_left, List.append_assoc]
    have hr := Dt.rds_whole l x.ns (p + s.a) (x.b ++ y) g3 hd1
    rw [g2] at hr
    have hd2 : l.drop (p + s.a + x.ns.flatten.length) = x.b ++ y := by rw [← List.drop_drop, hd1, List.drop_left]
    rw [Dt.splitL, if_neg (by omega), hs]
    simp only [Dt.takeL]
    rw [if_pos (by omega), hr]
    simp only
    rw [if_pos (by omega)]
    have e1 : Dt.part l p s.a = x.a := by rw [Dt.part, hd, hj, List.append_assoc, ← g1, List.take_left]
    have e2 : Dt.part l (p + s.a + x.ns.flatten.length) s.b = x.b := by rw [Dt.part, hd2, ← g4, List.take_left]
    rw [e1, e2]
  · have e1 : Dt.part l p d.length = d := by rw [Dt.part, hd, List.take_left]
    rw [Dt.splitL, if_neg (by omega), hs]
    simp only [e1]
    rw [if_neg]
    intro h3
    rw [ht h3.1] at h3
    exact absurd h3.2 (by simp)
/-- A number that was put is got where it stands. -/
theorem get_at {m : ByteArray} {i k : Nat} {n : Int} {y : List UInt8} (hk : 1 ≤ k ∧ k ≤ 4) (ho : Oct.putOk n k = true) (h : (bl m).drop i = bl (Oct.putS n k) ++ y) : Oct.getN m i k = n ∧ i + k ≤ m.size ∧ (bl m).drop (i + k) = y := by
  have hb : bl (Oct.putS n k) = Oct.beL n.toNat k := by rw [Oct.putS_yes _ _ ho, bl_mk]; rfl
  have hs := (Oct.putOk_spec n k).1 ho
  rw [hb] at h
  have hl : k ≤ (bl m).length - i := by
    have := congrArg List.length h
    rw [List.length_drop, List.length_append, Oct.beL_length] at this
    omega
  rw [bl_length] at hl
  have h1 : i + k ≤ m.size := by omega
  have ht : Oct.takeOk m i k = true := by rw [takeOk_nat]; simpa using h1
  have hg : Oct.getOk m i k = true := by rw [Oct.getOk_spec]; exact ⟨by omega, ht⟩
  refine ⟨?_, h1, ?_⟩
  · rw [Oct.getN, if_pos hg]
    have e : (Oct.takeS m i k).data.toList = Oct.beL n.toNat k := by
      have e2 : bl (Oct.takeS m i k) = Dt.part (bl m) i k := takeS_nat m i k h1
      have e3 : bl (Oct.takeS m i k) = (Oct.takeS m i k).data.toList := rfl
      rw [← e3, e2, Dt.part, h]
      conv => lhs; arg 1; rw [← Oct.beL_length n.toNat k]
      exact List.take_left
    rw [e, Oct.numL_beL k n.toNat (by
      have := hs.2.2.2
      rw [Int.toNat_natCast] at this
      have h2 : ((n.toNat : Nat) : Int) = n := Int.toNat_of_nonneg hs.2.2.1
      rw [← h2] at this
      exact Int.ofNat_lt.1 (by rw [Int.natCast_pow]; exact this))]
    exact Int.toNat_of_nonneg hs.2.2.1
  · rw [← List.drop_drop, h]
    conv => lhs; arg 1; rw [← Oct.beL_length n.toNat k]
    exact List.drop_left

theorem rec_puts {r : Rec} (h : recOk r = true) (hd : r.d.size ≤ 65535) : Oct.putOk r.t (2 : Nat) = true ∧ Oct.putOk r.c (2 : Nat) = true ∧ Oct.putOk r.l (4 : Nat) = true ∧ Oct.putOk r.d.size (2 : Nat) = true := by
  obtain ⟨_, h1, h2, h3, _⟩ := (recOk_spec r).1 h
  have e2 : (256 : Int) ^ (2 : Nat) = 65536 := by decide
  have e4 : (256 : Int) ^ (4 : Nat) = 4294967296 := by decide
  refine ⟨?_, ?_, ?_, ?_⟩
  · rw [Oct.putOk_spec, Int.toNat_natCast, e2]; omega
  · rw [Oct.putOk_spec, Int.toNat_natCast, e2]; omega
  · rw [Oct.putOk_spec, Int.toNat_natCast, e4]; omega
  · rw [Oct.putOk_spec, Int.toNat_natCast, e2]; omega
theorem put_bl_len {n : Int} {k : Nat} (h : Oct.putOk n k = true) : (bl (Oct.putS n k)).length = k := by
  rw [Oct.putS_yes _ _ h, bl_mk, Oct.beL_length, Int.toNat_natCast]
theorem check_len {k : Int} {d : ByteArray} (h : Dt.checkB k (bl d) = true) : d.size ≤ 65535 := by
  obtain ⟨x, hx⟩ := Option.isSome_iff_exists.1 h
  have := (Dt.whole_names hx).2.2
  rwa [bl_length] at this
/-- What is encoded is decoded, wherever it stands behind the name that it was written behind. -/
theorem dec_enc {m base : ByteArray} {r : Rec} {p : Nat} {x y : List UInt8} (he : encOk base 12 r = true) (hx : (bl m).drop 12 = bl base ++ x) (hp : 12 + base.size ≤ p) (hy : (bl m).drop p = bl (encS base 12 r) ++ y) :
    ∃ k : ByteArray, decR m p = ⟨⟨k, r.t, r.c, r.l, r.d⟩, p + (encS base 12 r).size, 0⟩ ∧ Nm.sameB (bl k) (bl r.n) = true ∧ k.size ≤ 255 := by
  have hs : recOk r = true ∧ Cm.wrOk (bl base) 12 (bl r.n) = true := by simpa [encOk] using he
  have hw := (wrOk_spec _ _ _).1 hs.2
  have hr := (recOk_spec r).1 hs.1
  have hd := check_len hr.2.2.2.2
  obtain ⟨o1, o2, o3, o4⟩ := rec_puts hs.1 hd
  have hwr : bl (wrS base 12 r.n) = Cm.wrL (bl base) 12 (bl r.n) := by rw [wrS, if_pos hs.2, bl_mk]; rfl
  have henc : bl (encS base 12 r) = Cm.wrL (bl base) 12 (bl r.n) ++ (bl (Oct.putS r.t (2 : Nat)) ++ (bl (Oct.putS r.c (2 : Nat)) ++ (bl (Oct.putS r.l (4 : Nat)) ++ (bl (Oct.putS r.d.size (2 : Nat)) ++ bl r.d)))) := by
    rw [encS, if_pos he, bl_append, hwr, recB]
    simp only [bl_append, List.append_assoc]
    rfl
  have hsz : (encS base 12 r).size = (Cm.wrL (bl base) 12 (bl r.n)).length + 10 + r.d.size := by
    rw [← bl_length, henc]
    simp only [List.length_append, put_bl_len o1, put_bl_len o2, put_bl_len o3, put_bl_len o4, bl_length r.d]
    omega
  rw [henc] at hy
  simp only [List.append_assoc] at hy
  obtain ⟨k, hk, hsame, _, _⟩ := Cm.read_written (bl m) (bl base) (bl r.n) 12 p x _ hw.1.1 hw.1.2 (by decide) hx (by rw [bl_length]; exact hp) hy
  generalize hW : Cm.wrL (bl base) 12 (bl r.n) = W at *
  have hi : (bl m).drop (p + W.length) = bl (Oct.putS r.t (2 : Nat)) ++ (bl (Oct.putS r.c (2 : Nat)) ++ (bl (Oct.putS r.l (4 : Nat)) ++ (bl (Oct.putS r.d.size (2 : Nat)) ++ (bl r.d ++ y)))) := by
    rw [← List.drop_drop, hy, List.drop_left]
  obtain ⟨g1, b1, i1⟩ := get_at (by decide) o1 hi
  obtain ⟨g2, b2, i2⟩ := get_at (by decide) o2 i1
  obtain ⟨g3, b3, i3⟩ := get_at (by decide) o3 i2
  obtain ⟨g4, b4, i4⟩ := get_at (by decide) o4 i3
  obtain ⟨xp, hxp⟩ := Option.isSome_iff_exists.1 hr.2.2.2.2
  have hsp := split_at hxp i4 (by rw [bl_length]; omega)
  rw [bl_length] at hsp
  have hjoin := (Dt.wholeL_join hxp).1
  have hml : p + W.length + 2 + 2 + 4 + 2 + r.d.size ≤ m.size := by
    have := congrArg List.length i4
    rw [List.length_drop, List.length_append, bl_length, bl_length] at this
    omega
  have hE := exp_yes (k := r.t) hml hsp
  refine ⟨⟨k.toArray⟩, ?_, by rw [bl_mk]; exact hsame, ?_⟩
  · rw [decR, hk]
    simp only [if_true]
    obtain ⟨D1, _⟩ := decB_in (m := m) (n := rrS ⟨k, p + W.length, 0⟩) (i := p + W.length) (by omega) _ rfl
    have q2 : ((p + W.length : Nat) : Int) + 2 = ((p + W.length + 2 : Nat) : Int) := by omega
    have q4 : ((p + W.length : Nat) : Int) + 2 + 2 = ((p + W.length + 2 + 2 : Nat) : Int) := by omega
    have q8 : ((p + W.length : Nat) : Int) + 2 + 2 + 4 = ((p + W.length + 2 + 2 + 4 : Nat) : Int) := by omega
    have q10 : ((p + W.length : Nat) : Int) + 2 + 2 + 4 + 2 = ((p + W.length + 2 + 2 + 4 + 2 : Nat) : Int) := by omega
    have g1' : Oct.getN m ((p + W.length : Nat) : Int) 2 = r.t := g1
    have g2' : Oct.getN m ((p + W.length + 2 : Nat) : Int) 2 = r.c := g2
    have g3' : Oct.getN m ((p + W.length + 2 + 2 : Nat) : Int) 4 = r.l := g3
    have g4' : Oct.getN m ((p + W.length + 2 + 2 + 4 : Nat) : Int) 2 = r.d.size := g4
    rw [q10, q8, q4, q2, g1', g2', g3', g4', hE] at D1
    rw [D1 rfl, hsz]
    have e1 : erS ⟨xp.join, 0⟩ = r.d := bl_inj (by rw [erS, bl_mk, hjoin])
    have e2 : ttlOf r.l = r.l := if_neg (by omega)
    have e3 : p + W.length + 10 + ((r.d.size : Nat) : Int).toNat = p + (W.length + 10 + r.d.size) := by rw [Int.toNat_natCast]; omega
    rw [e1, e2, e3]
    rfl
  · rw [← bl_length, bl_mk]
    rcases Cm.read_names (bl m) p with h | h | ⟨n, q, h, h2, _⟩
    · rw [hk] at h; simp [Cm.bad] at h
    · rw [hk] at h; simp [Cm.bad] at h
    · rw [hk] at h
      simp only [Cm.RR.mk.injEq] at h
      rw [h.1]
      exact (Dt.ok_len h2).2
end Go.Proofs.Ytdlaepfnogmebaa
