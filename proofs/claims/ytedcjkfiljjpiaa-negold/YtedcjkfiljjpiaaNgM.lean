/- What is not there: neg as a plain list of items. Mathematics alone. -/
import Derived.Test.YtedcjkfiljjpiaaAge
import Derived.Test.YtedcjkfiljjpiaaLruR
import Derived.Test.YtedcjkfiljjpiaaGrpR2
import Derived.Test.YtedcjkfiljjpiaaShapesG
namespace Go.Proofs.Ytedcjkfiljjpiaa
open Go.RowKit

/-- What is known not to be there. -/
structure Ni where
  key : Qn
  nx : Bool
  soa : St
  u : Int
  deriving DecidableEq
def noNi : Ni := ⟨noQn, false, noSt, 0⟩
/-- All that: the first put first. -/
structure Ngs where
  room : Int
  items : List Ni
  changes : Int
  deriving DecidableEq
namespace Ng
def keysL (l : List Ni) : List Qn := l.map (fun i => i.key)
def keys (s : Ngs) : List Qn := keysL s.items
def find (l : List Ni) (q : Qn) : Option Ni := l.find? (fun i => decide (i.key = q))
def without (l : List Ni) (q : Qn) : List Ni := l.filter (fun i => decide (i.key ≠ q))
def cut (l : List Ni) (room : Int) : List Ni := l.drop (Lr.cutAt l.length room)
/-- The number that the last four bytes are. -/
def lastN (d : List UInt8) : Int := Oct.getN ⟨d.toArray⟩ ((d.length : Int) - 4) 4
def minOk (x : St) : Bool := stOk x && decide (x.key.t = 6)
def minN (x : St) : Int := if minOk x = true then min x.ttl (lastN (x.ds.headD [])) else 0
def goodQ (q : Qn) : Bool := askedM q && decide (q.t ≠ 0)
/-- The key under which it is kept. -/
def kq (q : Qn) (nx : Bool) : Qn := if nx = true then ⟨q.n, 0, q.c⟩ else q
def putE (now : Int) (q : Qn) (x : St) : Int :=
  if (Ag.isT now && minOk x && goodQ q) = true then (if Ag.live now (Ag.till now (minN x)) = true then 0 else 14) else 1
def itN (now : Int) (q : Qn) (nx : Bool) (x : St) : Ni := ⟨kq q nx, nx, x, Ag.till now (minN x)⟩
def put (s : Ngs) (now : Int) (q : Qn) (nx : Bool) (x : St) : Ngs :=
  if putE now q x = 0 then ⟨s.room, cut (without s.items (kq q nx) ++ [itN now q nx x]) s.room, s.changes + 1⟩ else s
/-- The live item of a key. -/
def liveN (s : Ngs) (now : Int) (q : Qn) : Option Ni := (find s.items q).filter (fun i => Ag.live now i.u)
def findN (s : Ngs) (now : Int) (q : Qn) : Option Ni := (liveN s now ⟨q.n, 0, q.c⟩).or (liveN s now q)
def dropL (l : List Ni) (n : ByteArray) : List Ni := l.filter (fun i => decide (i.key.n ≠ n))
def gone (s : Ngs) (n : ByteArray) : Nat := s.items.length - (dropL s.items n).length
def drop (s : Ngs) (n : ByteArray) : Ngs := ⟨s.room, dropL s.items n, if 0 < gone s n then s.changes + 1 else s.changes⟩
end Ng
/-- An item that a machine can hold. -/
def NiFine (i : Ni) : Prop := QnFine i.key ∧ StFine i.soa ∧ StIn i.soa ∧ i.soa.ds.length ≤ 1000000 ∧ (-9223372036854775808 ≤ i.u ∧ i.u ≤ 9223372036854775807)
structure NgOk (s : Ngs) : Prop where
  room : 1 ≤ s.room ∧ s.room ≤ 1000
  len : (s.items.length : Int) ≤ s.room
  nodup : (Ng.keys s).Nodup
  fine : ∀ i ∈ s.items, NiFine i
  count : 0 ≤ s.changes
namespace Ng
theorem find_key {l : List Ni} {q : Qn} {i : Ni} (h : find l q = some i) : i ∈ l ∧ i.key = q := by
  unfold find at h
  exact ⟨List.mem_of_find?_eq_some h, by simpa using List.find?_some h⟩
theorem find_none {l : List Ni} {q : Qn} : find l q = none ↔ q ∉ keysL l := by
  unfold find keysL
  rw [List.find?_eq_none]
  simp only [decide_eq_true_eq, List.mem_map, not_exists, not_and]
theorem without_keys (l : List Ni) (q : Qn) : keysL (without l q) = Lr.drop (keysL l) q := by
  unfold keysL without Lr.drop
  rw [List.filter_map]
  rfl
theorem find_without {l : List Ni} {q k : Qn} : find (without l q) k = if k = q then none else find l k := by
  by_cases h : k = q
  · rw [if_pos h, find_none, without_keys]
    intro hm
    unfold Lr.drop at hm
    rw [List.mem_filter] at hm
    simp [h] at hm
  · rw [if_neg h]
    unfold find without
    rw [List.find?_filter]
    congr 1
    funext i
    by_cases hk : i.key = k
    · simp [hk, h]
    · simp [hk]
theorem keysL_append (a b : List Ni) : keysL (a ++ b) = keysL a ++ keysL b := by simp [keysL]
theorem keysL_drop (l : List Ni) (n : Nat) : keysL (l.drop n) = (keysL l).drop n := by simp [keysL, List.map_drop]
theorem keysL_take (l : List Ni) (n : Nat) : keysL (l.take n) = (keysL l).take n := by simp [keysL, List.map_take]
theorem keysL_len (l : List Ni) : (keysL l).length = l.length := by simp [keysL]
theorem touch_keys (l : List Ni) (i : Ni) : keysL (without l i.key ++ [i]) = Lr.touch (keysL l) i.key := by
  rw [keysL_append, without_keys]; rfl
theorem without_len (l : List Ni) (q : Qn) : (without l q).length ≤ l.length := List.length_filter_le _ _
theorem nodup_drop {l : List Qn} (h : l.Nodup) (q : Qn) : (Lr.drop l q).Nodup := List.Sublist.nodup List.filter_sublist h
theorem nodup_touch {l : List Qn} (h : l.Nodup) (q : Qn) : (Lr.touch l q).Nodup := by
  unfold Lr.touch
  rw [List.nodup_append]
  refine ⟨nodup_drop h q, by simp, fun a ha b hb => ?_⟩
  rw [List.mem_singleton] at hb
  subst hb
  intro e
  subst e
  unfold Lr.drop at ha
  rw [List.mem_filter] at ha
  simp at ha
theorem find_append {a b : List Ni} {q : Qn} : find (a ++ b) q = (find a q).or (find b q) := by
  unfold find; rw [List.find?_append]
/-- What is found behind a cut: what was found ahead of it, if it was not cut away. -/
theorem find_drop {l : List Ni} {n : Nat} {q : Qn} (h : (keysL l).Nodup) : find (l.drop n) q = if q ∈ keysL (l.take n) then none else find l q := by
  by_cases hm : q ∈ keysL (l.take n)
  · rw [if_pos hm, find_none]
    intro h2
    rw [keysL_take] at hm
    rw [keysL_drop] at h2
    rw [← List.take_append_drop n (keysL l), List.nodup_append] at h
    exact h.2.2 _ hm _ h2 rfl
  · rw [if_neg hm]
    have e : find l q = (find (l.take n) q).or (find (l.drop n) q) := by rw [← find_append, List.take_append_drop]
    rw [e, find_none.2 hm]
    rfl
theorem put_ok {s : Ngs} {x : Ni} (h : NgOk s) (hx : NiFine x) : NgOk ⟨s.room, cut (without s.items x.key ++ [x]) s.room, s.changes + 1⟩ := by
  have hr := h.room
  refine ⟨h.room, ?_, ?_, fun i hi => ?_, ?_⟩
  · show ((cut (without s.items x.key ++ [x]) s.room).length : Int) ≤ s.room
    unfold cut Lr.cutAt
    rw [List.length_drop]
    omega
  · show (keysL (cut (without s.items x.key ++ [x]) s.room)).Nodup
    unfold cut
    rw [keysL_drop, touch_keys]
    exact List.Sublist.nodup (List.drop_sublist _ _) (nodup_touch h.nodup _)
  · have hi' := List.mem_of_mem_drop hi
    rw [List.mem_append, List.mem_singleton] at hi'
    rcases hi' with hi' | rfl
    · exact h.fine i (List.mem_filter.1 hi').1
    · exact hx
  · have := h.count
    show 0 ≤ s.changes + 1
    omega
theorem dropL_keys (l : List Ni) (n : ByteArray) : keysL (dropL l n) = (keysL l).filter (fun q => decide (q.n ≠ n)) := by
  unfold keysL dropL
  rw [List.filter_map]
  rfl
theorem drop_ok {s : Ngs} (n : ByteArray) (h : NgOk s) : NgOk (drop s n) := by
  have hc := h.count
  refine ⟨h.room, ?_, ?_, fun i hi => h.fine i (List.mem_filter.1 hi).1, ?_⟩
  · have h1 := h.len
    have h2 : (dropL s.items n).length ≤ s.items.length := List.length_filter_le _ _
    show ((dropL s.items n).length : Int) ≤ s.room
    omega
  · show (keysL (dropL s.items n)).Nodup
    rw [dropL_keys]
    exact List.Sublist.nodup List.filter_sublist h.nodup
  · show 0 ≤ (if 0 < gone s n then s.changes + 1 else s.changes)
    split <;> omega
theorem find_dropL (l : List Ni) (n : ByteArray) (q : Qn) : find (dropL l n) q = if q.n = n then none else find l q := by
  by_cases h : q.n = n
  · rw [if_pos h, find_none, dropL_keys]
    intro hm
    rw [List.mem_filter] at hm
    simp [h] at hm
  · rw [if_neg h]
    unfold find dropL
    rw [List.find?_filter]
    congr 1
    funext i
    by_cases hk : i.key = q
    · simp [hk, h]
    · simp [hk]
/-- The number of four bytes. -/
theorem numL_lt (l : List UInt8) : 0 ≤ Oct.numL l ∧ Oct.numL l < 256 ^ l.length := by
  have gen : ∀ (l : List UInt8) (a : Int), 0 ≤ a → a * 256 ^ l.length ≤ l.foldl (fun n c => 256 * n + (c.toNat : Int)) a ∧ l.foldl (fun n c => 256 * n + (c.toNat : Int)) a < (a + 1) * 256 ^ l.length := by
    intro l
    induction l with
    | nil => intro a h; simp; omega
    | cons c l ih =>
      intro a h
      have hc : (c.toNat : Int) < 256 := by have := c.toNat_lt; omega
      obtain ⟨h1, h2⟩ := ih (256 * a + (c.toNat : Int)) (by omega)
      rw [List.foldl_cons, List.length_cons, Int.pow_succ]
      have hp : (0 : Int) < 256 ^ l.length := Int.pow_pos (by decide)
      generalize (256 : Int) ^ l.length = P at *
      constructor
      · refine Int.le_trans ?_ h1
        rw [show a * (P * 256) = (256 * a) * P by rw [Int.mul_comm P 256, ← Int.mul_assoc, Int.mul_comm a 256]]
        exact Int.mul_le_mul_of_nonneg_right (by omega) (by omega)
      · refine Int.lt_of_lt_of_le h2 ?_
        rw [show (a + 1) * (P * 256) = (256 * (a + 1)) * P by rw [Int.mul_comm P 256, ← Int.mul_assoc, Int.mul_comm (a + 1) 256]]
        exact Int.mul_le_mul_of_nonneg_right (by omega) (by omega)
  have := gen l 0 (by omega)
  unfold Oct.numL
  simpa using this
theorem lastN_in (d : List UInt8) : 0 ≤ lastN d ∧ lastN d ≤ 4294967295 := by
  unfold lastN Oct.getN
  split
  · rename_i h
    have h4 : (Oct.takeS ⟨d.toArray⟩ ((d.length : Int) - 4) 4).data.toList.length = 4 := by
      unfold Oct.getOk at h
      simp only [Bool.and_eq_true] at h
      unfold Oct.takeS
      rw [if_pos h.2]
      have h2 := h.2
      unfold Oct.takeOk at h2
      simp only [decide_eq_true_eq] at h2
      have hsz : (⟨d.toArray⟩ : ByteArray).size = d.length := by show d.toArray.size = _; simp
      rw [hsz] at h2
      show (ByteArray.extract _ _ _).size = 4
      rw [ByteArray.size_extract, hsz]
      omega
    have := numL_lt (Oct.takeS ⟨d.toArray⟩ ((d.length : Int) - 4) 4).data.toList
    rw [h4] at this
    have e : (256 : Int) ^ 4 = 4294967296 := by decide
    rw [e] at this
    omega
  · omega
theorem minN_in (x : St) : 0 ≤ minN x ∧ minN x ≤ 4294967295 := by
  unfold minN
  split
  · rename_i hm
    unfold minOk at hm
    rw [stOk_doc] at hm
    simp only [Bool.and_eq_true, decide_eq_true_eq] at hm
    have := lastN_in (x.ds.headD [])
    omega
  · omega
end Ng
end Go.Proofs.Ytedcjkfiljjpiaa
