/- What was learned: the store as a plain list of items. Mathematics alone. How a store reads; made anew; its keys and its changes; a store that is none. No condition but lengths. -/
import Derived.Test.YtdlaepfnogmebaaGrp3
import Derived.Test.YtdlaepfnogmebaaAge
import Derived.Test.YtdlaepfnogmebaaRank
import Derived.Test.YtdlaepfnogmebaaLruR
import Derived.Test.YtdlaepfnogmebaaShapesG
import Derived.Test.YtdlaepfnogmebaaMapsV
import Derived.Test.YtdlaepfnogmebaaLruQ
import Derived.Test.YtdlaepfnogmebaaCloneQ
import Derived.Test.YtdlaepfnogmebaaGrp5
namespace Go.Proofs.Ytdlaepfnogmebaa
open Go.RowKit

/-- A set that is kept. -/
structure It where
  set : St
  u : Int
  rank : Int
  deriving DecidableEq
def noIt : It := ⟨noSt, 0, 0⟩
/-- The store: the least lately used first. -/
structure Sto where
  room : Int
  items : List It
  changes : Int
  deriving DecidableEq
namespace Sto
def keysL (l : List It) : List Qn := l.map (fun i => i.set.key)
def keys (s : Sto) : List Qn := keysL s.items
def find (l : List It) (q : Qn) : Option It := l.find? (fun i => decide (i.set.key = q))
def without (l : List It) (q : Qn) : List It := l.filter (fun i => decide (i.set.key ≠ q))
def cut (l : List It) (room : Int) : List It := l.drop (Lr.cutAt l.length room)
def putE (s : Sto) (now : Int) (x : St) (rank : Int) : Int :=
  if (Ag.isT now && stOk x && Rk.isR rank) = true then
    (if Ag.live now (Ag.till now x.ttl) = true then
      (match find s.items x.key with
       | some i => if Rk.over i.rank (Ag.live now i.u) rank = true then 0 else 10
       | none => 0)
     else 14)
  else 1
def put (s : Sto) (now : Int) (x : St) (rank : Int) : Sto :=
  if putE s now x rank = 0 then ⟨s.room, cut (without s.items x.key ++ [⟨x, Ag.till now x.ttl, rank⟩]) s.room, s.changes + 1⟩ else s
def peek (s : Sto) (now : Int) (q : Qn) : Option It := (find s.items q).filter (fun i => Ag.live now i.u)
def get (s : Sto) (now : Int) (q : Qn) : Sto := match peek s now q with | some i => ⟨s.room, without s.items q ++ [i], s.changes⟩ | none => s
def has (s : Sto) (q : Qn) : Bool := (find s.items q).isSome
def drop (s : Sto) (q : Qn) : Sto := if has s q = true then ⟨s.room, without s.items q, s.changes + 1⟩ else s
end Sto
/-- An item that a machine can hold. -/
def ItFine (i : It) : Prop := StFine i.set ∧ StIn i.set ∧ i.set.ds.length ≤ 1000000 ∧ (-9223372036854775808 ≤ i.u ∧ i.u ≤ 9223372036854775807) ∧ (-9223372036854775808 ≤ i.rank ∧ i.rank ≤ 9223372036854775807)
structure StoOk (s : Sto) : Prop where
  room : 1 ≤ s.room ∧ s.room ≤ 1000
  len : (s.items.length : Int) ≤ s.room
  nodup : s.keys.Nodup
  fine : ∀ i ∈ s.items, ItFine i
  count : 0 ≤ s.changes
namespace Sto
theorem find_key {l : List It} {q : Qn} {i : It} (h : find l q = some i) : i ∈ l ∧ i.set.key = q := by
  unfold find at h
  exact ⟨List.mem_of_find?_eq_some h, by simpa using List.find?_some h⟩
theorem find_none {l : List It} {q : Qn} : find l q = none ↔ q ∉ keysL l := by
  unfold find keysL
  rw [List.find?_eq_none]
  simp only [decide_eq_true_eq, List.mem_map, not_exists, not_and]
theorem without_keys (l : List It) (q : Qn) : keysL (without l q) = Lr.drop (keysL l) q := by
  unfold keysL without Lr.drop
  rw [List.filter_map]
  rfl
theorem find_without {l : List It} {q k : Qn} : find (without l q) k = if k = q then none else find l k := by
  by_cases h : k = q
  · rw [if_pos h, find_none, without_keys]
    intro hm
    unfold Lr.drop at hm
    rw [List.mem_filter] at hm
    simp [h] at hm
  · rw [if_neg h]
    unfold find without
    rw [List.find?_filter]
    congr 1
    funext i
    by_cases hk : i.set.key = k
    · simp [hk, h]
    · simp [hk]
theorem keysL_append (a b : List It) : keysL (a ++ b) = keysL a ++ keysL b := by simp [keysL]
theorem keysL_drop (l : List It) (n : Nat) : keysL (l.drop n) = (keysL l).drop n := by simp [keysL, List.map_drop]
theorem keysL_take (l : List It) (n : Nat) : keysL (l.take n) = (keysL l).take n := by simp [keysL, List.map_take]
theorem keysL_len (l : List It) : (keysL l).length = l.length := by simp [keysL]
theorem touch_keys (l : List It) (i : It) : keysL (without l i.set.key ++ [i]) = Lr.touch (keysL l) i.set.key := by
  rw [keysL_append, without_keys]; rfl
theorem without_len (l : List It) (q : Qn) : (without l q).length ≤ l.length := List.length_filter_le _ _
theorem nodup_drop {l : List Qn} (h : l.Nodup) (q : Qn) : (Lr.drop l q).Nodup := List.Sublist.nodup List.filter_sublist h
theorem nodup_touch {l : List Qn} (h : l.Nodup) (q : Qn) : (Lr.touch l q).Nodup := by
  unfold Lr.touch
  rw [List.nodup_append]
  refine ⟨nodup_drop h q, by simp, fun a ha b hb => ?_⟩
  rw [List.mem_singleton] at hb
  subst hb
  intro e
  subst e
  unfold Lr.drop at ha
  rw [List.mem_filter] at ha
  simp at ha
theorem find_append {a b : List It} {q : Qn} : find (a ++ b) q = (find a q).or (find b q) := by
  unfold find; rw [List.find?_append]
/-- What is found behind a cut: what was found ahead of it, if it was not cut away. -/
theorem find_drop {l : List It} {n : Nat} {q : Qn} (h : (keysL l).Nodup) : find (l.drop n) q = if q ∈ keysL (l.take n) then none else find l q := by
  by_cases hm : q ∈ keysL (l.take n)
  · rw [if_pos hm, find_none]
    intro h2
    rw [keysL_take] at hm
    rw [keysL_drop] at h2
    rw [← List.take_append_drop n (keysL l), List.nodup_append] at h
    exact h.2.2 _ hm _ h2 rfl
  · rw [if_neg hm]
    have e : find l q = (find (l.take n) q).or (find (l.drop n) q) := by rw [← find_append, List.take_append_drop]
    rw [e, find_none.2 hm]
    rfl
end Sto
end Go.Proofs.Ytdlaepfnogmebaa

namespace Go.Proofs.Ytdlaepfnogmebaa
open Go.RowKit

def itV (i : It) (vd : Value) : Value := .agg #[.string i.set.key.n, .int .i64 i.set.key.t, .int .i64 i.set.key.c, vd, .int .i64 i.set.ttl, .int .i64 i.u, .int .i64 i.rank]
def itL (i : It) (vd : Value) : List Value := [.string i.set.key.n, .int .i64 i.set.key.t, .int .i64 i.set.key.c, vd, .int .i64 i.set.ttl, .int .i64 i.u, .int .i64 i.rank]
/-- A value reads as an item. -/
def ItAt (w : World) (v : Value) (i : It) : Prop := ∃ vd, v = itV i vd ∧ ReadS w vd i.set.ds
/-- What the map holds of a key. -/
def FOk (XG : Nat → Prop) (w : World) (p m : Nat) : Option It → Option Value → Prop
  | none, ov => ov = none
  | some i, ov => ∃ vd, ov = some (itV i vd) ∧ ReadS w vd i.set.ds ∧ Pl XG w vd p m
variable {XG : Nat → Prop}
theorem FOk.keeps {w w' : World} {p m : Nat} {oi : Option It} {ov : Option Value} (h : FOk XG w p m oi ov) (k : Keeps w w') : FOk XG w' p m oi ov := by
  cases oi with
  | none => exact h
  | some i =>
    obtain ⟨vd, h1, h2, h3⟩ := h
    exact ⟨vd, h1, h2.keeps k, h3.size k.size⟩
theorem FOk.kb {w w' : World} {p m : Nat} {oi : Option It} {ov : Option Value} (h : FOk XG w p m oi ov) (k : KB p m w w') : FOk XG w' p m oi ov := by
  cases oi with
  | none => exact h
  | some i =>
    obtain ⟨vd, h1, h2, h3⟩ := h
    exact ⟨vd, h1, h2.kb h3.ap k, h3.size k.size⟩
/-- The blocks p and m are a store that reads as s. -/
structure SAt (XG : Nat → Prop) (w : World) (p m : Nat) (s : Sto) : Prop where
  ne : p ≠ m
  ok : StoOk s
  ex : ∃ (v : Value) (n : Nat) (f : Qn → Option Value), Blk w p #[.int .i64 s.room, .map (some m), v, .int .i64 s.changes] 121 ∧ ReadRow w v 3 (s.keys.map qnL) ∧ Pl XG w v p m ∧ MapV w 32 qnV m n f ∧ (n : Int) ≤ s.changes ∧ ∀ q, FOk XG w p m (Sto.find s.items q) (f q)
theorem SAt.keeps {w w' : World} {p m : Nat} {s : Sto} (h : SAt XG w p m s) (k : Keeps w w') : SAt XG w' p m s := by
  obtain ⟨h1, h2, v, n, f, h3, h4, h5, h6, h7, h8⟩ := h
  exact ⟨h1, h2, v, n, f, h3.keeps k, h4.keeps k, h5.size k.size, h6.keeps k, h7, fun q => (h8 q).keeps k⟩
theorem SAt.lt {w : World} {p m : Nat} {s : Sto} (h : SAt XG w p m s) : p < w.heap.size ∧ m < w.heap.size := by
  obtain ⟨h1, h2, v, n, f, h3, h4, h5, h6, h7, h8⟩ := h
  exact ⟨h3.lt, h6.lt⟩
theorem SAt.gl {w : World} {p m : Nat} {s : Sto} (h : SAt XG w p m s) : ∀ g, XG g → g < w.heap.size := by
  obtain ⟨h1, h2, v, n, f, h3, h4, h5, h6, h7, h8⟩ := h
  exact h5.gl
/-- Blocks that it does not use turn: it is as it was. -/
theorem SAt.other {w w' : World} {p m : Nat} {s : Sto} (h : SAt XG w p m s) (hs : w.heap.size ≤ w'.heap.size) (hk : ∀ k, k < w.heap.size → ¬ XG k → w'.heap[k]? = w.heap[k]?) (hp : ¬ XG p) (hm : ¬ XG m) : SAt XG w' p m s := by
  obtain ⟨h1, h2, v, n, f, h3, h4, h5, h6, h7, h8⟩ := h
  refine ⟨h1, h2, v, n, f, (hk p h3.lt hp).trans h3, h4.stay hs (fun a n c e => hk _ (h5.av a n c e).2 (h5.av a n c e).1), h5.size hs, h6.same (hk m h6.lt hm), h7, fun q => ?_⟩
  have h := h8 q
  cases hf : Sto.find s.items q with
  | none => rw [hf] at h; exact (show f q = none from h)
  | some i =>
    rw [hf] at h
    obtain ⟨vd, e1, e2, e3⟩ := h
    exact ⟨vd, e1, e2.stay (fun a n c e => hk _ (e3.av a n c e).2 (e3.av a n c e).1), e3.size hs⟩
theorem SAt.kbo {w w' : World} {p m p2 m2 : Nat} {s : Sto} (h : SAt XG w p m s) (k : KB p2 m2 w w') (hp2 : XG p2) (hm2 : XG m2) (hp : ¬ XG p) (hm : ¬ XG m) : SAt XG w' p m s :=
  h.other k.size (fun i hi hx => k.block i hi (fun e => hx (e ▸ hp2)) (fun e => hx (e ▸ hm2))) hp hm
/-- More blocks are barred: new ones. -/
theorem SAt.bar {XH : Nat → Prop} {w w' : World} {p m : Nat} {s : Sto} (h : SAt XG w p m s) (k : Keeps w w') (hx : ∀ g, XH g → (XG g ∨ w.heap.size ≤ g) ∧ g < w'.heap.size) : SAt XH w' p m s := by
  have pl : ∀ v, Pl XG w v p m → Pl XH w' v p m := fun v h5 => ⟨h5.ap, fun a n c e => ⟨fun hg => by
    rcases (hx _ hg).1 with h1 | h1
    · exact (h5.av a n c e).1 h1
    · have := (h5.av a n c e).2
      omega, Nat.lt_of_lt_of_le (h5.av a n c e).2 k.size⟩, fun g hg => (hx g hg).2⟩
  obtain ⟨h1, h2, v, n, f, h3, h4, h5, h6, h7, h8⟩ := h
  refine ⟨h1, h2, v, n, f, h3.keeps k, h4.keeps k, pl _ h5, h6.keeps k, h7, fun q => ?_⟩
  have h := (h8 q)
  cases hf : Sto.find s.items q with
  | none => rw [hf] at h; exact (show f q = none from h)
  | some i =>
    rw [hf] at h
    obtain ⟨vd, e1, e2, e3⟩ := h
    exact ⟨vd, e1, e2.keeps k, pl _ e3⟩
theorem Blk.four_cells {w : World} {G : Nat} {p q r s : Value} {ty : TypeId} (h : Blk w G #[p, q, r, s] ty) :
    (w.cell? ⟨G, 0, none⟩ = some p ∧ w.cell? ⟨G, 1, none⟩ = some q ∧ w.cell? ⟨G, 2, none⟩ = some r ∧ w.cell? ⟨G, 3, none⟩ = some s) ∧ (w.frozen? ⟨G, 0, none⟩ = false ∧ w.frozen? ⟨G, 1, none⟩ = false ∧ w.frozen? ⟨G, 2, none⟩ = false ∧ w.frozen? ⟨G, 3, none⟩ = false) ∧ G < w.heap.size :=
  ⟨⟨h.cell 0, h.cell 1, h.cell 2, h.cell 3⟩, ⟨h.frozen 0, h.frozen 1, h.frozen 2, h.frozen 3⟩, h.lt⟩

/-- A store that was made. -/
def NewEnd (w : World) (room : Int) (e : Ending) (w' : World) : Prop := ∃ p m, e = .returned (.pointer (some ⟨p, 0, none⟩)) ∧ w.heap.size ≤ p ∧ w.heap.size ≤ m ∧ SAt noG w' p m ⟨room, [], 0⟩ ∧ Keeps w w'
theorem NewEnd.mk {w w' : World} {room : Int} (p m : Nat) (hp : w.heap.size ≤ p) (hm : w.heap.size ≤ m) (h : SAt noG w' p m ⟨room, [], 0⟩) (k : Keeps w w') : NewEnd w room (.returned (.pointer (some ⟨p, 0, none⟩))) w' := ⟨p, m, rfl, hp, hm, h, k⟩

set_option maxHeartbeats 4000000 in
set_option maxRecDepth 100000 in
theorem New_yes (room : Int) (w : World) (h1 : 1 ≤ room) (h2 : room ≤ 1000) :
    Calls Try.prog 12 #[.int .i64 room] w fun e w' => NewEnd w room e w' := by
  have hmm := @run_makeMap Try.prog
  have g1 : ¬ room < 1 := by omega
  have g2 : ¬ 1000 < room := by omega
  have Mp := hide ((MapV.made w 32 qnV).keeps ((Keeps.refl (w.alloc (.map #[] 0))).alloc (.cells #[.int .i64 room, .map (some w.heap.size), .slice none 0 0, .int .i64 0] 121)))
  have B := Blk.made (w.alloc (.map #[] 0)) #[.int .i64 room, .map (some w.heap.size), .slice none 0 0, .int .i64 0] 121
  rw [size_allocG] at B
  replace B := hide B
  have K := hide (((Keeps.refl w).alloc (.map #[] 0)).alloc (.cells #[.int .i64 room, .map (some w.heap.size), .slice none 0 0, .int .i64 0] 121))
  go_enter Try.func12, Try.ntmps12
  go_wp2
  go_ret
  refine NewEnd.mk (w.heap.size + 1) w.heap.size (Nat.le_succ _) (Nat.le_refl _) ?_ K.out
  refine ⟨by omega, ⟨⟨h1, h2⟩, by simp; omega, by simp [Sto.keys, Sto.keysL], by simp, by simp⟩, _, 0, _, B.out, ReadRow.nil, Pl.none _ _ _ _ (fun _ h => h.elim), Mp.out, by simp, fun q => ?_⟩
  simp [Sto.find, FOk]
set_option maxHeartbeats 4000000 in
set_option maxRecDepth 100000 in
theorem New_no (room : Int) (w : World) (h : room < 1 ∨ 1000 < room) :
    Calls Try.prog 12 #[.int .i64 room] w fun e w' => e = .returned (.pointer none) ∧ Keeps w w' := by
  by_cases g1 : room < 1
  · go_enter Try.func12, Try.ntmps12
    go_wp2
    go_ret
    exact ⟨rfl, Keeps.refl _⟩
  · have g2 : 1000 < room := by omega
    go_enter Try.func12, Try.ntmps12
    go_wp2
    go_ret
    exact ⟨rfl, Keeps.refl _⟩

set_option maxHeartbeats 4000000 in
set_option maxRecDepth 100000 in
theorem isMade_nil (w : World) : Calls Try.prog 71 #[.pointer none] w fun e w' => e = .returned (.bool false) ∧ w' = w := by
  go_enter Try.func71, Try.ntmps71
  go_wp2
  go_ret
  exact ⟨rfl, rfl⟩
set_option maxHeartbeats 4000000 in
set_option maxRecDepth 100000 in
theorem isMade_any (p m : Nat) (s : Sto) (w : World) (h : SAt XG w p m s) : Calls Try.prog 71 #[.pointer (some ⟨p, 0, none⟩)] w fun e w' => e = .returned (.bool true) ∧ w' = w := by
  obtain ⟨h1, h2, v, n, f, h3, _⟩ := h
  have hr : 0 < s.room := by have := h2.room; omega
  obtain ⟨⟨c0, _, _, _⟩, _, _⟩ := h3.four_cells
  go_enter Try.func71, Try.ntmps71
  go_wp2
  go_ret
  exact ⟨rfl, rfl⟩
set_option maxHeartbeats 4000000 in
set_option maxRecDepth 100000 in
theorem Changes_any (p m : Nat) (s : Sto) (w : World) (h : SAt XG w p m s) : Calls Try.prog 27 #[.pointer (some ⟨p, 0, none⟩)] w fun e w' => e = .returned (.int .i64 s.changes) ∧ w' = w := by
  have HM := hide (isMade_any p m s w h)
  obtain ⟨h1, h2, v, n, f, h3, _⟩ := h
  obtain ⟨⟨_, _, _, c3⟩, _, _⟩ := h3.four_cells
  go_enter Try.func27, Try.ntmps27
  go_wp2_with fail
  refine (HM.out).mono ?_
  rintro e w1 ⟨rfl, rfl⟩
  go_wp2
  go_ret
  exact ⟨rfl, rfl⟩
set_option maxHeartbeats 4000000 in
set_option maxRecDepth 100000 in
theorem Changes_nil (w : World) : Calls Try.prog 27 #[.pointer none] w fun e w' => e = .returned (.int .i64 0) ∧ w' = w := by
  go_enter Try.func27, Try.ntmps27
  go_wp2_with fail
  refine (isMade_nil _).mono ?_
  rintro e w1 ⟨rfl, rfl⟩
  go_wp2
  go_ret
  exact ⟨rfl, rfl⟩
set_option maxHeartbeats 4000000 in
set_option maxRecDepth 100000 in
theorem Keys_nil (w : World) : Calls Try.prog 25 #[.pointer none] w fun e w' => e = .returned (.slice none 0 0) ∧ w' = w := by
  go_enter Try.func25, Try.ntmps25
  go_wp2_with fail
  refine (isMade_nil _).mono ?_
  rintro e w1 ⟨rfl, rfl⟩
  go_wp2
  go_ret
  exact ⟨rfl, rfl⟩
theorem keys_small {s : Sto} (h : StoOk s) : s.keys.length ≤ 1000 := by
  have h1 := h.len
  have h2 := h.room
  have : s.keys.length = s.items.length := Sto.keysL_len _
  omega
set_option maxHeartbeats 4000000 in
set_option maxRecDepth 100000 in
theorem Keys_any (p m : Nat) (s : Sto) (w : World) (h : SAt XG w p m s) : Calls Try.prog 25 #[.pointer (some ⟨p, 0, none⟩)] w fun e w' => REnd w 32 3 (s.keys.map qnL) e w' := by
  have HM := hide (isMade_any p m s w h)
  obtain ⟨h1, h2, v, n, f, h3, h4, _⟩ := h
  have hs := keys_small h2
  obtain ⟨⟨_, _, c2, _⟩, _, _⟩ := h3.four_cells
  have HC := hide (Clone_q v (s.keys.map qnL) w h4 (fun r hr => by obtain ⟨x, _, rfl⟩ := List.mem_map.1 hr; rfl) (fun r hr u hu => by obtain ⟨x, _, rfl⟩ := List.mem_map.1 hr; exact qnL_ones x u hu) (by rw [List.length_map]; omega))
  go_enter Try.func25, Try.ntmps25
  go_wp2_with fail
  refine (HM.out).mono ?_
  rintro e w1 ⟨rfl, rfl⟩
  go_wp2_with fail
  refine (HC.out).mono ?_
  intro e w1 hE
  obtain ⟨v1, rfl, o1, k1⟩ := hE
  go_wp2
  go_ret
  exact REnd.mk o1 k1
end Go.Proofs.Ytdlaepfnogmebaa
