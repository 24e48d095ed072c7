/- How what is not there reads; made anew; its keys and its changes; one that is none. No condition but lengths. -/
import Derived.Test.YtedcjkfiljjpiaaNgM
import Derived.Test.YtedcjkfiljjpiaaTen
namespace Go.Proofs.Ytedcjkfiljjpiaa
open Go.RowKit

def niV (i : Ni) (vd : Value) : Value := .agg #[.string i.key.n, .int .i64 i.key.t, .int .i64 i.key.c, .bool i.nx, .string i.soa.key.n, .int .i64 i.soa.key.t, .int .i64 i.soa.key.c, vd, .int .i64 i.soa.ttl, .int .i64 i.u]
def niL (i : Ni) (vd : Value) : List Value := [.string i.key.n, .int .i64 i.key.t, .int .i64 i.key.c, .bool i.nx, .string i.soa.key.n, .int .i64 i.soa.key.t, .int .i64 i.soa.key.c, vd, .int .i64 i.soa.ttl, .int .i64 i.u]
/-- A value reads as an item. -/
def NiAt (w : World) (v : Value) (i : Ni) : Prop := ∃ vd, v = niV i vd ∧ ReadS w vd i.soa.ds
/-- What the map holds of a key. -/
def NFOk (w : World) (p m : Nat) : Option Ni → Option Value → Prop
  | none, ov => ov = none
  | some i, ov => ∃ vd, ov = some (niV i vd) ∧ ReadS w vd i.soa.ds ∧ Apart vd p m
theorem NFOk.keeps {w w' : World} {p m : Nat} {oi : Option Ni} {ov : Option Value} (h : NFOk w p m oi ov) (k : Keeps w w') : NFOk w' p m oi ov := by
  cases oi with
  | none => exact h
  | some i =>
    obtain ⟨vd, h1, h2, h3⟩ := h
    exact ⟨vd, h1, h2.keeps k, h3⟩
theorem NFOk.kb {w w' : World} {p m : Nat} {oi : Option Ni} {ov : Option Value} (h : NFOk w p m oi ov) (k : KB p m w w') : NFOk w' p m oi ov := by
  cases oi with
  | none => exact h
  | some i =>
    obtain ⟨vd, h1, h2, h3⟩ := h
    exact ⟨vd, h1, h2.kb h3 k, h3⟩
/-- The blocks p and m are a store that reads as s. -/
structure NAt (w : World) (p m : Nat) (s : Ngs) : Prop where
  ne : p ≠ m
  ok : NgOk s
  ex : ∃ (v : Value) (n : Nat) (f : Qn → Option Value), Blk w p #[.int .i64 s.room, .map (some m), v, .int .i64 s.changes] 71 ∧ ReadRow w v 3 ((Ng.keys s).map qnL) ∧ Apart v p m ∧ MapV w 32 qnV m n f ∧ (n : Int) ≤ s.changes ∧ ∀ q, NFOk w p m (Ng.find s.items q) (f q)
theorem NAt.keeps {w w' : World} {p m : Nat} {s : Ngs} (h : NAt w p m s) (k : Keeps w w') : NAt w' p m s := by
  obtain ⟨h1, h2, v, n, f, h3, h4, h5, h6, h7, h8⟩ := h
  exact ⟨h1, h2, v, n, f, h3.keeps k, h4.keeps k, h5, h6.keeps k, h7, fun q => (h8 q).keeps k⟩
theorem NAt.lt {w : World} {p m : Nat} {s : Ngs} (h : NAt w p m s) : p < w.heap.size ∧ m < w.heap.size := by
  obtain ⟨h1, h2, v, n, f, h3, h4, h5, h6, h7, h8⟩ := h
  exact ⟨h3.lt, h6.lt⟩
theorem Blk.four_cellsN {w : World} {G : Nat} {p q r s : Value} {ty : TypeId} (h : Blk w G #[p, q, r, s] ty) :
    (w.cell? ⟨G, 0, none⟩ = some p ∧ w.cell? ⟨G, 1, none⟩ = some q ∧ w.cell? ⟨G, 2, none⟩ = some r ∧ w.cell? ⟨G, 3, none⟩ = some s) ∧ (w.frozen? ⟨G, 0, none⟩ = false ∧ w.frozen? ⟨G, 1, none⟩ = false ∧ w.frozen? ⟨G, 2, none⟩ = false ∧ w.frozen? ⟨G, 3, none⟩ = false) ∧ G < w.heap.size :=
  ⟨⟨h.cell 0, h.cell 1, h.cell 2, h.cell 3⟩, ⟨h.frozen 0, h.frozen 1, h.frozen 2, h.frozen 3⟩, h.lt⟩

/-- A store that was made. -/
def NewNEnd (w : World) (room : Int) (e : Ending) (w' : World) : Prop := ∃ p m, e = .returned (.pointer (some ⟨p, 0, none⟩)) ∧ w.heap.size ≤ p ∧ w.heap.size ≤ m ∧ NAt w' p m ⟨room, [], 0⟩ ∧ Keeps w w'
theorem NewNEnd.mk {w w' : World} {room : Int} (p m : Nat) (hp : w.heap.size ≤ p) (hm : w.heap.size ≤ m) (h : NAt w' p m ⟨room, [], 0⟩) (k : Keeps w w') : NewNEnd w room (.returned (.pointer (some ⟨p, 0, none⟩))) w' := ⟨p, m, rfl, hp, hm, h, k⟩

set_option maxHeartbeats 4000000 in
set_option maxRecDepth 100000 in
theorem NewN_yes (room : Int) (w : World) (h1 : 1 ≤ room) (h2 : room ≤ 1000) :
    Calls Try.prog 10 #[.int .i64 room] w fun e w' => NewNEnd w room e w' := by
  have hmm := @run_makeMap Try.prog
  have g1 : ¬ room < 1 := by omega
  have g2 : ¬ 1000 < room := by omega
  have Mp := hide ((MapV.made w 32 qnV).keeps ((Keeps.refl (w.alloc (.map #[] 0))).alloc (.cells #[.int .i64 room, .map (some w.heap.size), .slice none 0 0, .int .i64 0] 71)))
  have B := Blk.made (w.alloc (.map #[] 0)) #[.int .i64 room, .map (some w.heap.size), .slice none 0 0, .int .i64 0] 71
  rw [size_allocG] at B
  replace B := hide B
  have K := hide (((Keeps.refl w).alloc (.map #[] 0)).alloc (.cells #[.int .i64 room, .map (some w.heap.size), .slice none 0 0, .int .i64 0] 71))
  go_enter Try.func10, Try.ntmps10
  go_wp2
  go_ret
  refine NewNEnd.mk (w.heap.size + 1) w.heap.size (Nat.le_succ _) (Nat.le_refl _) ?_ K.out
  refine ⟨by omega, ⟨⟨h1, h2⟩, by simp; omega, by simp [Ng.keys, Ng.keysL], by simp, by simp⟩, _, 0, _, B.out, ReadRow.nil, Apart.none _ _ _ _, Mp.out, by simp, fun q => ?_⟩
  simp [Ng.find, NFOk]
set_option maxHeartbeats 4000000 in
set_option maxRecDepth 100000 in
theorem NewN_no (room : Int) (w : World) (h : room < 1 ∨ 1000 < room) :
    Calls Try.prog 10 #[.int .i64 room] w fun e w' => e = .returned (.pointer none) ∧ Keeps w w' := by
  by_cases g1 : room < 1
  · go_enter Try.func10, Try.ntmps10
    go_wp2
    go_ret
    exact ⟨rfl, Keeps.refl _⟩
  · have g2 : 1000 < room := by omega
    go_enter Try.func10, Try.ntmps10
    go_wp2
    go_ret
    exact ⟨rfl, Keeps.refl _⟩

set_option maxHeartbeats 4000000 in
set_option maxRecDepth 100000 in
theorem isMadeN_nil (w : World) : Calls Try.prog 40 #[.pointer none] w fun e w' => e = .returned (.bool false) ∧ w' = w := by
  go_enter Try.func40, Try.ntmps40
  go_wp2
  go_ret
  exact ⟨rfl, rfl⟩
set_option maxHeartbeats 4000000 in
set_option maxRecDepth 100000 in
theorem isMadeN_any (p m : Nat) (s : Ngs) (w : World) (h : NAt w p m s) : Calls Try.prog 40 #[.pointer (some ⟨p, 0, none⟩)] w fun e w' => e = .returned (.bool true) ∧ w' = w := by
  obtain ⟨h1, h2, v, n, f, h3, _⟩ := h
  have hr : 0 < s.room := by have := h2.room; omega
  obtain ⟨⟨c0, _, _, _⟩, _, _⟩ := h3.four_cellsN
  go_enter Try.func40, Try.ntmps40
  go_wp2
  go_ret
  exact ⟨rfl, rfl⟩
set_option maxHeartbeats 4000000 in
set_option maxRecDepth 100000 in
theorem ChangesN_any (p m : Nat) (s : Ngs) (w : World) (h : NAt w p m s) : Calls Try.prog 25 #[.pointer (some ⟨p, 0, none⟩)] w fun e w' => e = .returned (.int .i64 s.changes) ∧ w' = w := by
  have HM := hide (isMadeN_any p m s w h)
  obtain ⟨h1, h2, v, n, f, h3, _⟩ := h
  obtain ⟨⟨_, _, _, c3⟩, _, _⟩ := h3.four_cellsN
  go_enter Try.func25, Try.ntmps25
  go_wp2_with fail
  refine (HM.out).mono ?_
  rintro e w1 ⟨rfl, rfl⟩
  go_wp2
  go_ret
  exact ⟨rfl, rfl⟩
set_option maxHeartbeats 4000000 in
set_option maxRecDepth 100000 in
theorem ChangesN_nil (w : World) : Calls Try.prog 25 #[.pointer none] w fun e w' => e = .returned (.int .i64 0) ∧ w' = w := by
  go_enter Try.func25, Try.ntmps25
  go_wp2_with fail
  refine (isMadeN_nil _).mono ?_
  rintro e w1 ⟨rfl, rfl⟩
  go_wp2
  go_ret
  exact ⟨rfl, rfl⟩
set_option maxHeartbeats 4000000 in
set_option maxRecDepth 100000 in
theorem KeysN_nil (w : World) : Calls Try.prog 23 #[.pointer none] w fun e w' => e = .returned (.slice none 0 0) ∧ w' = w := by
  go_enter Try.func23, Try.ntmps23
  go_wp2_with fail
  refine (isMadeN_nil _).mono ?_
  rintro e w1 ⟨rfl, rfl⟩
  go_wp2
  go_ret
  exact ⟨rfl, rfl⟩
theorem keysN_small {s : Ngs} (h : NgOk s) : (Ng.keys s).length ≤ 1000 := by
  have h1 := h.len
  have h2 := h.room
  have : (Ng.keys s).length = s.items.length := Ng.keysL_len _
  omega
set_option maxHeartbeats 4000000 in
set_option maxRecDepth 100000 in
theorem KeysN_any (p m : Nat) (s : Ngs) (w : World) (h : NAt w p m s) : Calls Try.prog 23 #[.pointer (some ⟨p, 0, none⟩)] w fun e w' => REnd w 32 3 ((Ng.keys s).map qnL) e w' := by
  have HM := hide (isMadeN_any p m s w h)
  obtain ⟨h1, h2, v, n, f, h3, h4, _⟩ := h
  have hs := keysN_small h2
  obtain ⟨⟨_, _, c2, _⟩, _, _⟩ := h3.four_cellsN
  have HC := hide (Clone_q v ((Ng.keys s).map qnL) w h4 (fun r hr => by obtain ⟨x, _, rfl⟩ := List.mem_map.1 hr; rfl) (fun r hr u hu => by obtain ⟨x, _, rfl⟩ := List.mem_map.1 hr; exact qnL_ones x u hu) (by rw [List.length_map]; omega))
  go_enter Try.func23, Try.ntmps23
  go_wp2_with fail
  refine (HM.out).mono ?_
  rintro e w1 ⟨rfl, rfl⟩
  go_wp2_with fail
  refine (HC.out).mono ?_
  intro e w1 hE
  obtain ⟨v1, rfl, o1, k1⟩ := hE
  go_wp2
  go_ret
  exact REnd.mk o1 k1
end Go.Proofs.Ytedcjkfiljjpiaa
