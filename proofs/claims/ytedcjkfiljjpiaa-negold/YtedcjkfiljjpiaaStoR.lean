/- What was learned: the store as a plain list of items. Mathematics alone. How a store reads; made anew; its keys and its changes; a store that is none. No condition but lengths. -/
import Derived.Test.YtedcjkfiljjpiaaGrp3
import Derived.Test.YtedcjkfiljjpiaaAge
import Derived.Test.YtedcjkfiljjpiaaRank
import Derived.Test.YtedcjkfiljjpiaaLruR
import Derived.Test.YtedcjkfiljjpiaaShapesG
import Derived.Test.YtedcjkfiljjpiaaMapsV
import Derived.Test.YtedcjkfiljjpiaaLruQ
import Derived.Test.YtedcjkfiljjpiaaCloneQ
import Derived.Test.YtedcjkfiljjpiaaGrp5
namespace Go.Proofs.Ytedcjkfiljjpiaa
open Go.RowKit

/-- A set that is kept. -/
structure It where
  set : St
  u : Int
  rank : Int
  deriving DecidableEq
def noIt : It := ⟨noSt, 0, 0⟩
/-- The store: the least lately used first. -/
structure Sto where
  room : Int
  items : List It
  changes : Int
  deriving DecidableEq
namespace Sto
def keysL (l : List It) : List Qn := l.map (fun i => i.set.key)
def keys (s : Sto) : List Qn := keysL s.items
def find (l : List It) (q : Qn) : Option It := l.find? (fun i => decide (i.set.key = q))
def without (l : List It) (q : Qn) : List It := l.filter (fun i => decide (i.set.key ≠ q))
def cut (l : List It) (room : Int) : List It := l.drop (Lr.cutAt l.length room)
def putE (s : Sto) (now : Int) (x : St) (rank : Int) : Int :=
  if (Ag.isT now && stOk x && Rk.isR rank) = true then
    (if Ag.live now (Ag.till now x.ttl) = true then
      (match find s.items x.key with
       | some i => if Rk.over i.rank (Ag.live now i.u) rank = true then 0 else 10
       | none => 0)
     else 14)
  else 1
def put (s : Sto) (now : Int) (x : St) (rank : Int) : Sto :=
  if putE s now x rank = 0 then ⟨s.room, cut (without s.items x.key ++ [⟨x, Ag.till now x.ttl, rank⟩]) s.room, s.changes + 1⟩ else s
def peek (s : Sto) (now : Int) (q : Qn) : Option It := (find s.items q).filter (fun i => Ag.live now i.u)
def get (s : Sto) (now : Int) (q : Qn) : Sto := match peek s now q with | some i => ⟨s.room, without s.items q ++ [i], s.changes⟩ | none => s
def has (s : Sto) (q : Qn) : Bool := (find s.items q).isSome
def drop (s : Sto) (q : Qn) : Sto := if has s q = true then ⟨s.room, without s.items q, s.changes + 1⟩ else s
end Sto
/-- An item that a machine can hold. -/
def ItFine (i : It) : Prop := StFine i.set ∧ StIn i.set ∧ i.set.ds.length ≤ 1000000 ∧ (-9223372036854775808 ≤ i.u ∧ i.u ≤ 9223372036854775807) ∧ (-9223372036854775808 ≤ i.rank ∧ i.rank ≤ 9223372036854775807)
structure StoOk (s : Sto) : Prop where
  room : 1 ≤ s.room ∧ s.room ≤ 1000
  len : (s.items.length : Int) ≤ s.room
  nodup : s.keys.Nodup
  fine : ∀ i ∈ s.items, ItFine i
  count : 0 ≤ s.changes
namespace Sto
theorem find_key {l : List It} {q : Qn} {i : It} (h : find l q = some i) : i ∈ l ∧ i.set.key = q := by
  unfold find at h
  exact ⟨List.mem_of_find?_eq_some h, by simpa using List.find?_some h⟩
theorem find_none {l : List It} {q : Qn} : find l q = none ↔ q ∉ keysL l := by
  unfold find keysL
  rw [List.find?_eq_none]
  simp only [decide_eq_true_eq, List.mem_map, not_exists, not_and]
theorem without_keys (l : List It) (q : Qn) : keysL (without l q) = Lr.drop (keysL l) q := by
  unfold keysL without Lr.drop
  rw [List.filter_map]
  rfl
theorem find_without {l : List It} {q k : Qn} : find (without l q) k = if k = q then none else find l k := by
  by_cases h : k = q
  · rw [if_pos h, find_none, without_keys]
    intro hm
    unfold Lr.drop at hm
    rw [List.mem_filter] at hm
    simp [h] at hm
  · rw [if_neg h]
    unfold find without
    rw [List.find?_filter]
    congr 1
    funext i
    by_cases hk : i.set.key = k
    · simp [hk, h]
    · simp [hk]
theorem keysL_append (a b : List It) : keysL (a ++ b) = keysL a ++ keysL b := by simp [keysL]
theorem keysL_drop (l : List It) (n : Nat) : keysL (l.drop n) = (keysL l).drop n := by simp [keysL, List.map_drop]
theorem keysL_take (l : List It) (n : Nat) : keysL (l.take n) = (keysL l).take n := by simp [keysL, List.map_take]
theorem keysL_len (l : List It) : (keysL l).length = l.length := by simp [keysL]
theorem touch_keys (l : List It) (i : It) : keysL (without l i.set.key ++ [i]) = Lr.touch (keysL l) i.set.key := by
  rw [keysL_append, without_keys]; rfl
theorem without_len (l : List It) (q : Qn) : (without l q).length ≤ l.length := List.length_filter_le _ _
theorem nodup_drop {l : List Qn} (h : l.Nodup) (q : Qn) : (Lr.drop l q).Nodup := List.Sublist.nodup List.filter_sublist h
theorem nodup_touch {l : List Qn} (h : l.Nodup) (q : Qn) : (Lr.touch l q).Nodup := by
  unfold Lr.touch
  rw [List.nodup_append]
  refine ⟨nodup_drop h q, by simp, fun a ha b hb => ?_⟩
  rw [List.mem_singleton] at hb
  subst hb
  intro e
  subst e
  unfold Lr.drop at ha
  rw [List.mem_filter] at ha
  simp at ha
theorem find_append {a b : List It} {q : Qn} : find (a ++ b) q = (find a q).or (find b q) := by
  unfold find; rw [List.find?_append]
/-- What is found behind a cut: what was found ahead of it, if it was not cut away. -/
theorem find_drop {l : List It} {n : Nat} {q : Qn} (h : (keysL l).Nodup) : find (l.drop n) q = if q ∈ keysL (l.take n) then none else find l q := by
  by_cases hm : q ∈ keysL (l.take n)
  · rw [if_pos hm, find_none]
    intro h2
    rw [keysL_take] at hm
    rw [keysL_drop] at h2
    rw [← List.take_append_drop n (keysL l), List.nodup_append] at h
    exact h.2.2 _ hm _ h2 rfl
  · rw [if_neg hm]
    have e : find l q = (find (l.take n) q).or (find (l.drop n) q) := by rw [← find_append, List.take_append_drop]
    rw [e, find_none.2 hm]
    rfl
end Sto
end Go.Proofs.Ytedcjkfiljjpiaa

namespace Go.Proofs.Ytedcjkfiljjpiaa
open Go.RowKit

def itV (i : It) (vd : Value) : Value := .agg #[.string i.set.key.n, .int .i64 i.set.key.t, .int .i64 i.set.key.c, vd, .int .i64 i.set.ttl, .int .i64 i.u, .int .i64 i.rank]
def itL (i : It) (vd : Value) : List Value := [.string i.set.key.n, .int .i64 i.set.key.t, .int .i64 i.set.key.c, vd, .int .i64 i.set.ttl, .int .i64 i.u, .int .i64 i.rank]
/-- A value reads as an item. -/
def ItAt (w : World) (v : Value) (i : It) : Prop := ∃ vd, v = itV i vd ∧ ReadS w vd i.set.ds
/-- What the map holds of a key. -/
def FOk (w : World) (p m : Nat) : Option It → Option Value → Prop
  | none, ov => ov = none
  | some i, ov => ∃ vd, ov = some (itV i vd) ∧ ReadS w vd i.set.ds ∧ Apart vd p m
theorem FOk.keeps {w w' : World} {p m : Nat} {oi : Option It} {ov : Option Value} (h : FOk w p m oi ov) (k : Keeps w w') : FOk w' p m oi ov := by
  cases oi with
  | none => exact h
  | some i =>
    obtain ⟨vd, h1, h2, h3⟩ := h
    exact ⟨vd, h1, h2.keeps k, h3⟩
theorem FOk.kb {w w' : World} {p m : Nat} {oi : Option It} {ov : Option Value} (h : FOk w p m oi ov) (k : KB p m w w') : FOk w' p m oi ov := by
  cases oi with
  | none => exact h
  | some i =>
    obtain ⟨vd, h1, h2, h3⟩ := h
    exact ⟨vd, h1, h2.kb h3 k, h3⟩
theorem Blk.four_cells {w : World} {G : Nat} {p q r s : Value} {ty : TypeId} (h : Blk w G #[p, q, r, s] ty) :
    (w.cell? ⟨G, 0, none⟩ = some p ∧ w.cell? ⟨G, 1, none⟩ = some q ∧ w.cell? ⟨G, 2, none⟩ = some r ∧ w.cell? ⟨G, 3, none⟩ = some s) ∧ (w.frozen? ⟨G, 0, none⟩ = false ∧ w.frozen? ⟨G, 1, none⟩ = false ∧ w.frozen? ⟨G, 2, none⟩ = false ∧ w.frozen? ⟨G, 3, none⟩ = false) ∧ G < w.heap.size :=
  ⟨⟨h.cell 0, h.cell 1, h.cell 2, h.cell 3⟩, ⟨h.frozen 0, h.frozen 1, h.frozen 2, h.frozen 3⟩, h.lt⟩

theorem keys_small {s : Sto} (h : StoOk s) : s.keys.length ≤ 1000 := by
  have h1 := h.len
  have h2 := h.room
  have : s.keys.length = s.items.length := Sto.keysL_len _
  omega
end Go.Proofs.Ytedcjkfiljjpiaa
