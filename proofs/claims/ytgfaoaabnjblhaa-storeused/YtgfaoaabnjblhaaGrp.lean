/- Plain functions: what layer 10 tells of records. No condition. -/
import Derived.Test.YtgfaoaabnjblhaaMany
namespace Go.Proofs.Ytgfaoaabnjblhaa
open Go.RowKit

/-- A set: its key, its data, its time. -/
structure St where
  key : Qn
  ds : List (List UInt8)
  ttl : Int
  deriving DecidableEq
def noSt : St := ⟨noQn, [], 0⟩
def lowR (r : Rec) : List UInt8 := Dt.lowD r.t (bl r.d)
def keyM (r : Rec) : Qn := if recOk r then ⟨lowS r.n, r.t, r.c⟩ else noQn
/-- The record of a set that holds d. -/
def oneM (q : Qn) (ttl : Int) (d : List UInt8) : Rec := ⟨q.n, q.t, q.c, ttl, ⟨d.toArray⟩⟩
def dataOk (q : Qn) (ttl : Int) (d : List UInt8) : Bool := recOk (oneM q ttl d) && (Dt.lowD q.t d == d)
def stOk (s : St) : Bool := decide (s.ds ≠ []) && decide (lowS s.key.n = s.key.n) && s.ds.all (dataOk s.key s.ttl) && decide s.ds.Nodup
def addD (l : List (List UInt8)) (d : List UInt8) : List (List UInt8) := if d ∈ l then l else l ++ [d]
def layM (k : Qn) (ttl : Int) (d : List UInt8) : List St → List St
  | [] => [⟨k, [d], ttl⟩]
  | s :: l => if s.key = k then ⟨s.key, addD s.ds d, min s.ttl ttl⟩ :: l else s :: layM k ttl d l
def usedB (r : Rec) : Bool := recOk r && decide (r.t ≠ 41)
def stepM (l : List St) (r : Rec) : List St := if usedB r then layM (keyM r) r.l (lowR r) l else l
def fromM (l : List Rec) : List St := l.foldl stepM []
def turned {α : Type} (l : List α) (k : Nat) : List α := l.drop (k % l.length) ++ l.take (k % l.length)
def flatM (s : St) (ttl : Int) (turn : Int) : List Rec := if stOk s && decide (0 ≤ ttl ∧ ttl ≤ 2147483647) && decide (0 ≤ turn) then (turned s.ds turn.toNat).map (oneM s.key ttl) else []
theorem bl_of (d : List UInt8) : bl ⟨d.toArray⟩ = d := by simp [bl]
theorem turned_length {α : Type} (l : List α) (k : Nat) : (turned l k).length = l.length := by
  by_cases h : l.length = 0
  · have : l = [] := List.length_eq_zero_iff.1 h
    subst this; simp [turned]
  have := Nat.mod_lt k (show 0 < l.length by omega)
  simp [turned]; omega
theorem turned_get {α : Type} (l : List α) (k i : Nat) (hi : i < l.length) : (turned l k)[i]? = l[(k % l.length + i) % l.length]? := by
  have hm := Nat.mod_lt k (show 0 < l.length by omega)
  unfold turned
  generalize k % l.length = f at *
  by_cases h : f + i < l.length
  · rw [Nat.mod_eq_of_lt h, List.getElem?_append_left (by simp; omega), List.getElem?_drop]
  · have e : (f + i) % l.length = f + i - l.length := by rw [Nat.mod_eq_sub_mod (by omega), Nat.mod_eq_of_lt (by omega)]
    rw [e, List.getElem?_append_right (by simp; omega), List.length_drop, List.getElem?_take_of_lt (by omega)]
    congr 1
    omega
end Go.Proofs.Ytgfaoaabnjblhaa
