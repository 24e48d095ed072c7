/- Plain functions on bytes: what layer 6 tells. No condition. -/
import Derived.Test.YthoominldliphaaDataWalk5
import Derived.Test.YthoominldliphaaCompWalk2
namespace Go.Proofs.Ythoominldliphaa
open Go.RowKit

/-- A record. -/
structure Rec where
  n : ByteArray
  t : Int
  c : Int
  l : Int
  d : ByteArray
  deriving DecidableEq
def noRec : Rec := ⟨⟨#[]⟩, 0, 0, 0, ⟨#[]⟩⟩
def recV (r : Rec) : Value := .agg #[.string r.n, .int .i64 r.t, .int .i64 r.c, .int .i64 r.l, .string r.d]
def num2 (x : Int) : Bool := decide (0 ≤ x ∧ x ≤ 65535)
def recOk (r : Rec) : Bool := Nm.okL (bl r.n) && num2 r.t && num2 r.c && decide (0 ≤ r.l ∧ r.l ≤ 2147483647) && Dt.checkB r.t (bl r.d)
/-- What Decode answers. -/
structure DR where
  r : Rec
  next : Nat
  e : Nat
def badD (e : Nat) : DR := ⟨noRec, 0, e⟩
def ttlOf (x : Int) : Int := if 2147483647 < x then 0 else x
/-- What stands behind a name that was read. -/
def decB (m n : ByteArray) (i : Nat) : DR :=
  if i + 10 ≤ m.size then
    let E := Dt.expL (bl m) (i + 10 : Nat) (Oct.getN m (i + 8 : Nat) 2) (Oct.getN m i 2)
    if E.e = 0 then ⟨⟨n, Oct.getN m i 2, Oct.getN m (i + 2 : Nat) 2, ttlOf (Oct.getN m (i + 4 : Nat) 4), erS E⟩, i + 10 + (Oct.getN m (i + 8 : Nat) 2).toNat, 0⟩ else badD E.e
  else badD 2
def decR (m : ByteArray) (p : Int) : DR :=
  if (Cm.readL (bl m) p).e = 0 then decB m (rrS (Cm.readL (bl m) p)) (Cm.readL (bl m) p).next else badD (Cm.readL (bl m) p).e
/-- What stands behind a record's name: its numbers and its data. -/
def recB (r : Rec) : ByteArray := Oct.putS r.t 2 ++ Oct.putS r.c 2 ++ Oct.putS r.l 4 ++ Oct.putS r.d.size 2 ++ r.d
def encOk (base : ByteArray) (p : Int) (r : Rec) : Bool := recOk r && Cm.wrOk (bl base) p (bl r.n)
def encS (base : ByteArray) (p : Int) (r : Rec) : ByteArray := if encOk base p r = true then wrS base p r.n ++ recB r else ⟨#[]⟩
def ttlAt (base : ByteArray) (p : Int) (r : Rec) : Int := if encOk base p r = true then (wrS base p r.n).size + 4 else -1

theorem recOk_spec (r : Rec) : recOk r = true ↔ Nm.okL (bl r.n) = true ∧ (0 ≤ r.t ∧ r.t ≤ 65535) ∧ (0 ≤ r.c ∧ r.c ≤ 65535) ∧ (0 ≤ r.l ∧ r.l ≤ 2147483647) ∧ Dt.checkB r.t (bl r.d) = true := by
  simp [recOk, num2, and_assoc]
theorem wrL_len {base n : List UInt8} {a : Nat} (hb : Nm.okL base = true) (hn : Nm.okL n = true) (ha : a ≤ 16000) : (Cm.wrL base a n).length ≤ n.length ∧ 0 < (Cm.wrL base a n).length := by
  have e : (List.replicate a (0 : UInt8) ++ (base ++ Cm.wrL base a n)).drop a = base ++ Cm.wrL base a n := by
    have h : (List.replicate a (0 : UInt8)).length = a := by simp
    conv => lhs; arg 1; rw [← h]
    exact List.drop_left
  obtain ⟨k, _, _, h3, h4⟩ := Cm.read_written (List.replicate a 0 ++ (base ++ Cm.wrL base a n)) base n a (a + base.length) (Cm.wrL base a n) [] hb hn ha e (Nat.le_refl _)
    (by rw [← List.drop_drop, e, List.drop_left, List.append_nil])
  exact ⟨h3, h4⟩
theorem wr_pos {base : ByteArray} {p : Int} {n : ByteArray} (h : Cm.wrOk (bl base) p (bl n) = true) : 0 < (wrS base p n).size ∧ (wrS base p n).size ≤ 255 := by
  have h2 := (wrOk_spec _ _ _).1 h
  have e : (wrS base p n).size = (Cm.wrL (bl base) p.toNat (bl n)).length := by rw [wrS, if_pos h, ← bl_length, bl_mk]
  rw [e]
  have hn := Dt.ok_len h2.1.2
  have := wrL_len (a := p.toNat) h2.1.1 h2.1.2 (by omega)
  omega
theorem wr_none {base : ByteArray} {p : Int} {n : ByteArray} : wrS base p n = ⟨#[]⟩ ↔ Cm.wrOk (bl base) p (bl n) = false := by
  constructor
  · intro h
    cases ho : Cm.wrOk (bl base) p (bl n)
    · rfl
    · have := (wr_pos ho).1
      rw [h] at this
      exact absurd this (by decide)
  · exact wrS_no
theorem decB_e (m n : ByteArray) (i : Nat) : (decB m n i).e = 0 ∨ (decB m n i).e = 2 ∨ (decB m n i).e = 4 := by
  unfold decB
  split
  · simp only
    split
    · exact .inl rfl
    · rename_i h
      have : ∀ (l : List UInt8) p k t, (Dt.expL l p k t).e = 0 ∨ (Dt.expL l p k t).e = 2 ∨ (Dt.expL l p k t).e = 4 := by
        intro l p k t
        unfold Dt.expL
        split
        · split <;> simp
        · simp
      exact this _ _ _ _
  · exact .inr (.inl rfl)
end Go.Proofs.Ythoominldliphaa
