/- How a store reads; made anew; its keys and its changes; a store that is none. No condition but lengths. -/
import Derived.Test.YtgfaoaabnjblhaaStoM
import Derived.Test.YtgfaoaabnjblhaaMapsV
import Derived.Test.YtgfaoaabnjblhaaLruQ2
import Derived.Test.YtgfaoaabnjblhaaCloneT
import Derived.Test.YtgfaoaabnjblhaaGrp5
namespace Go.Proofs.Ytgfaoaabnjblhaa
open Go.RowKit

def itV (i : It) (vd : Value) : Value := .agg #[.string i.set.key.n, .int .i64 i.set.key.t, .int .i64 i.set.key.c, vd, .int .i64 i.set.ttl, .int .i64 i.u, .int .i64 i.rank]
def itL (i : It) (vd : Value) : List Value := [.string i.set.key.n, .int .i64 i.set.key.t, .int .i64 i.set.key.c, vd, .int .i64 i.set.ttl, .int .i64 i.u, .int .i64 i.rank]
/-- A value reads as an item. -/
def ItAt (w : World) (v : Value) (i : It) : Prop := ∃ vd, v = itV i vd ∧ ReadS w vd i.set.ds
/-- What the map holds of a key. -/
def FOk (w : World) (p m : Nat) : Option It → Option Value → Prop
  | none, ov => ov = none
  | some i, ov => ∃ vd, ov = some (itV i vd) ∧ ReadS w vd i.set.ds ∧ Apart vd p m
theorem FOk.keeps {w w' : World} {p m : Nat} {oi : Option It} {ov : Option Value} (h : FOk w p m oi ov) (k : Keeps w w') : FOk w' p m oi ov := by
  cases oi with
  | none => exact h
  | some i =>
    obtain ⟨vd, h1, h2, h3⟩ := h
    exact ⟨vd, h1, h2.keeps k, h3⟩
theorem FOk.kb {w w' : World} {p m : Nat} {oi : Option It} {ov : Option Value} (h : FOk w p m oi ov) (k : KB p m w w') : FOk w' p m oi ov := by
  cases oi with
  | none => exact h
  | some i =>
    obtain ⟨vd, h1, h2, h3⟩ := h
    exact ⟨vd, h1, h2.kb h3 k, h3⟩
/-- The blocks p and m are a store that reads as s. -/
structure SAt (w : World) (p m : Nat) (s : Sto) : Prop where
  ne : p ≠ m
  ok : StoOk s
  ex : ∃ (v : Value) (n : Nat) (f : Qn → Option Value), Blk w p #[.int .i64 s.room, .map (some m), v, .int .i64 s.changes] 73 ∧ ReadRow w v 3 (s.keys.map qnL) ∧ Apart v p m ∧ MapV w 32 qnV m n f ∧ (n : Int) ≤ s.changes ∧ ∀ q, FOk w p m (Sto.find s.items q) (f q)
theorem SAt.keeps {w w' : World} {p m : Nat} {s : Sto} (h : SAt w p m s) (k : Keeps w w') : SAt w' p m s := by
  obtain ⟨h1, h2, v, n, f, h3, h4, h5, h6, h7, h8⟩ := h
  exact ⟨h1, h2, v, n, f, h3.keeps k, h4.keeps k, h5, h6.keeps k, h7, fun q => (h8 q).keeps k⟩
theorem SAt.lt {w : World} {p m : Nat} {s : Sto} (h : SAt w p m s) : p < w.heap.size ∧ m < w.heap.size := by
  obtain ⟨h1, h2, v, n, f, h3, h4, h5, h6, h7, h8⟩ := h
  exact ⟨h3.lt, h6.lt⟩
theorem Blk.four_cells {w : World} {G : Nat} {p q r s : Value} {ty : TypeId} (h : Blk w G #[p, q, r, s] ty) :
    (w.cell? ⟨G, 0, none⟩ = some p ∧ w.cell? ⟨G, 1, none⟩ = some q ∧ w.cell? ⟨G, 2, none⟩ = some r ∧ w.cell? ⟨G, 3, none⟩ = some s) ∧ (w.frozen? ⟨G, 0, none⟩ = false ∧ w.frozen? ⟨G, 1, none⟩ = false ∧ w.frozen? ⟨G, 2, none⟩ = false ∧ w.frozen? ⟨G, 3, none⟩ = false) ∧ G < w.heap.size :=
  ⟨⟨h.cell 0, h.cell 1, h.cell 2, h.cell 3⟩, ⟨h.frozen 0, h.frozen 1, h.frozen 2, h.frozen 3⟩, h.lt⟩

/-- A store that was made. -/
def NewEnd (w : World) (room : Int) (e : Ending) (w' : World) : Prop := ∃ p m, e = .returned (.pointer (some ⟨p, 0, none⟩)) ∧ w.heap.size ≤ p ∧ w.heap.size ≤ m ∧ SAt w' p m ⟨room, [], 0⟩ ∧ Keeps w w'
theorem NewEnd.mk {w w' : World} {room : Int} (p m : Nat) (hp : w.heap.size ≤ p) (hm : w.heap.size ≤ m) (h : SAt w' p m ⟨room, [], 0⟩) (k : Keeps w w') : NewEnd w room (.returned (.pointer (some ⟨p, 0, none⟩))) w' := ⟨p, m, rfl, hp, hm, h, k⟩

set_option maxHeartbeats 4000000 in
set_option maxRecDepth 100000 in
theorem New_yes (room : Int) (w : World) (h1 : 1 ≤ room) (h2 : room ≤ 1000) :
    Calls Try.prog 11 #[.int .i64 room] w fun e w' => NewEnd w room e w' := by
  have hmm := @run_makeMap Try.prog
  have g1 : ¬ room < 1 := by omega
  have g2 : ¬ 1000 < room := by omega
  have Mp := hide ((MapV.made w 32 qnV).keeps ((Keeps.refl (w.alloc (.map #[] 0))).alloc (.cells #[.int .i64 room, .map (some w.heap.size), .slice none 0 0, .int .i64 0] 73)))
  have B := Blk.made (w.alloc (.map #[] 0)) #[.int .i64 room, .map (some w.heap.size), .slice none 0 0, .int .i64 0] 73
  rw [size_allocG] at B
  replace B := hide B
  have K := hide (((Keeps.refl w).alloc (.map #[] 0)).alloc (.cells #[.int .i64 room, .map (some w.heap.size), .slice none 0 0, .int .i64 0] 73))
  go_enter Try.func11, Try.ntmps11
  go_wp2
  go_ret
  refine NewEnd.mk (w.heap.size + 1) w.heap.size (Nat.le_succ _) (Nat.le_refl _) ?_ K.out
  refine ⟨by omega, ⟨⟨h1, h2⟩, by simp; omega, by simp [Sto.keys, Sto.keysL], by simp, by simp⟩, _, 0, _, B.out, ReadRow.nil, Apart.none _ _ _ _, Mp.out, by simp, fun q => ?_⟩
  simp [Sto.find, FOk]
set_option maxHeartbeats 4000000 in
set_option maxRecDepth 100000 in
theorem New_no (room : Int) (w : World) (h : room < 1 ∨ 1000 < room) :
    Calls Try.prog 11 #[.int .i64 room] w fun e w' => e = .returned (.pointer none) ∧ Keeps w w' := by
  by_cases g1 : room < 1
  · go_enter Try.func11, Try.ntmps11
    go_wp2
    go_ret
    exact ⟨rfl, Keeps.refl _⟩
  · have g2 : 1000 < room := by omega
    go_enter Try.func11, Try.ntmps11
    go_wp2
    go_ret
    exact ⟨rfl, Keeps.refl _⟩

set_option maxHeartbeats 4000000 in
set_option maxRecDepth 100000 in
theorem isMade_nil (w : World) : Calls Try.prog 42 #[.pointer none] w fun e w' => e = .returned (.bool false) ∧ w' = w := by
  go_enter Try.func42, Try.ntmps42
  go_wp2
  go_ret
  exact ⟨rfl, rfl⟩
set_option maxHeartbeats 4000000 in
set_option maxRecDepth 100000 in
theorem isMade_any (p m : Nat) (s : Sto) (w : World) (h : SAt w p m s) : Calls Try.prog 42 #[.pointer (some ⟨p, 0, none⟩)] w fun e w' => e = .returned (.bool true) ∧ w' = w := by
  obtain ⟨h1, h2, v, n, f, h3, _⟩ := h
  have hr : 0 < s.room := by have := h2.room; omega
  obtain ⟨⟨c0, _, _, _⟩, _, _⟩ := h3.four_cells
  go_enter Try.func42, Try.ntmps42
  go_wp2
  go_ret
  exact ⟨rfl, rfl⟩
set_option maxHeartbeats 4000000 in
set_option maxRecDepth 100000 in
theorem Changes_any (p m : Nat) (s : Sto) (w : World) (h : SAt w p m s) : Calls Try.prog 26 #[.pointer (some ⟨p, 0, none⟩)] w fun e w' => e = .returned (.int .i64 s.changes) ∧ w' = w := by
  have HM := hide (isMade_any p m s w h)
  obtain ⟨h1, h2, v, n, f, h3, _⟩ := h
  obtain ⟨⟨_, _, _, c3⟩, _, _⟩ := h3.four_cells
  go_enter Try.func26, Try.ntmps26
  go_wp2_with fail
  refine (HM.out).mono ?_
  rintro e w1 ⟨rfl, rfl⟩
  go_wp2
  go_ret
  exact ⟨rfl, rfl⟩
set_option maxHeartbeats 4000000 in
set_option maxRecDepth 100000 in
theorem Changes_nil (w : World) : Calls Try.prog 26 #[.pointer none] w fun e w' => e = .returned (.int .i64 0) ∧ w' = w := by
  go_enter Try.func26, Try.ntmps26
  go_wp2_with fail
  refine (isMade_nil _).mono ?_
  rintro e w1 ⟨rfl, rfl⟩
  go_wp2
  go_ret
  exact ⟨rfl, rfl⟩
set_option maxHeartbeats 4000000 in
set_option maxRecDepth 100000 in
theorem Keys_nil (w : World) : Calls Try.prog 24 #[.pointer none] w fun e w' => e = .returned (.slice none 0 0) ∧ w' = w := by
  go_enter Try.func24, Try.ntmps24
  go_wp2_with fail
  refine (isMade_nil _).mono ?_
  rintro e w1 ⟨rfl, rfl⟩
  go_wp2
  go_ret
  exact ⟨rfl, rfl⟩
theorem keys_small {s : Sto} (h : StoOk s) : s.keys.length ≤ 1000 := by
  have h1 := h.len
  have h2 := h.room
  have : s.keys.length = s.items.length := Sto.keysL_len _
  omega
set_option maxHeartbeats 4000000 in
set_option maxRecDepth 100000 in
theorem Keys_any (p m : Nat) (s : Sto) (w : World) (h : SAt w p m s) : Calls Try.prog 24 #[.pointer (some ⟨p, 0, none⟩)] w fun e w' => REnd w 32 3 (s.keys.map qnL) e w' := by
  have HM := hide (isMade_any p m s w h)
  obtain ⟨h1, h2, v, n, f, h3, h4, _⟩ := h
  have hs := keys_small h2
  obtain ⟨⟨_, _, c2, _⟩, _, _⟩ := h3.four_cells
  have HC := hide (Clone_q v (s.keys.map qnL) w h4 (fun r hr => by obtain ⟨x, _, rfl⟩ := List.mem_map.1 hr; rfl) (fun r hr u hu => by obtain ⟨x, _, rfl⟩ := List.mem_map.1 hr; exact qnL_ones x u hu) (by rw [List.length_map]; omega))
  go_enter Try.func24, Try.ntmps24
  go_wp2_with fail
  refine (HM.out).mono ?_
  rintro e w1 ⟨rfl, rfl⟩
  go_wp2_with fail
  refine (HC.out).mono ?_
  intro e w1 hE
  obtain ⟨v1, rfl, o1, k1⟩ := hE
  go_wp2
  go_ret
  exact REnd.mk o1 k1
end Go.Proofs.Ytgfaoaabnjblhaa
