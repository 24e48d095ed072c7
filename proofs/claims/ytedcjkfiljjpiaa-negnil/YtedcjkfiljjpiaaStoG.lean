/- A store that is looked into: what is told is the caller's own. No condition but lengths. A store out of which something is got, that is used by that. No condition but lengths. -/
import Derived.Test.YtedcjkfiljjpiaaStoR
import Derived.Deep.RegionWith
namespace Go.Proofs.Ytedcjkfiljjpiaa
open Go.RowKit

theorem Blk.seven {w : World} {G : Nat} {a b c d e f g : Value} {ty : TypeId} (h : Blk w G #[a, b, c, d, e, f, g] ty) :
    (w.cell? ⟨G, 0, none⟩ = some a ∧ w.cell? ⟨G, 1, none⟩ = some b ∧ w.cell? ⟨G, 2, none⟩ = some c ∧ w.cell? ⟨G, 3, none⟩ = some d ∧ w.cell? ⟨G, 4, none⟩ = some e ∧ w.cell? ⟨G, 5, none⟩ = some f ∧ w.cell? ⟨G, 6, none⟩ = some g) ∧
    (w.frozen? ⟨G, 0, none⟩ = false ∧ w.frozen? ⟨G, 1, none⟩ = false ∧ w.frozen? ⟨G, 2, none⟩ = false ∧ w.frozen? ⟨G, 3, none⟩ = false ∧ w.frozen? ⟨G, 4, none⟩ = false ∧ w.frozen? ⟨G, 5, none⟩ = false ∧ w.frozen? ⟨G, 6, none⟩ = false) ∧ G < w.heap.size :=
  ⟨⟨h.cell 0, h.cell 1, h.cell 2, h.cell 3, h.cell 4, h.cell 5, h.cell 6⟩, ⟨h.frozen 0, h.frozen 1, h.frozen 2, h.frozen 3, h.frozen 4, h.frozen 5, h.frozen 6⟩, h.lt⟩
/-- A struct of seven cells, written. -/
def set7 (W : World) (G : Nat) (a b c d e f g : Value) : World := ((((((W.setCell ⟨G, 0, none⟩ a).setCell ⟨G, 1, none⟩ b).setCell ⟨G, 2, none⟩ c).setCell ⟨G, 3, none⟩ d).setCell ⟨G, 4, none⟩ e).setCell ⟨G, 5, none⟩ f).setCell ⟨G, 6, none⟩ g
theorem set7_blk {W : World} {G : Nat} {z0 z1 z2 z3 z4 z5 z6 : Value} {ty : TypeId} (h : Blk W G #[z0, z1, z2, z3, z4, z5, z6] ty) (a b c d e f g : Value) : Blk (set7 W G a b c d e f g) G #[a, b, c, d, e, f, g] ty := by
  have h0 := h.set 0 a
  have h1 := h0.set 1 b
  have h2 := h1.set 2 c
  have h3 := h2.set 3 d
  have h4 := h3.set 4 e
  have h5 := h4.set 5 f
  have h6 := h5.set 6 g
  simp at h6
  exact h6
theorem set7_keeps {w W : World} (K : Keeps w W) {G : Nat} (hle : w.heap.size ≤ G) (a b c d e f g : Value) : Keeps w (set7 W G a b c d e f g) :=
  ((((((K.setC _ hle _).setC _ hle _).setC _ hle _).setC _ hle _).setC _ hle _).setC _ hle _).setC _ hle _

theorem OwnsR.setOther {w : World} {B : Nat} {ty : TypeId} {c : Nat} {v : Value} {l : List (List Value)} (h : OwnsR w B ty c v l) {a : Addr} (ha : a.block < B) (u : Value) : OwnsR (w.setCell a u) B ty c v l := by
  refine ⟨⟨h.1.1, ?_⟩, h.2⟩
  rcases h.1.2 with hn | ⟨g, cap, cur, rfl, hB, hg, rest⟩
  · exact .inl hn
  · exact .inr ⟨g, cap, cur, rfl, hB, by rw [Below.heap_setCell w a u g (by omega)]; exact hg, rest⟩
theorem OwnsR.set7 {w : World} {B : Nat} {ty : TypeId} {cc : Nat} {v : Value} {l : List (List Value)} (h : OwnsR w B ty cc v l) {G : Nat} (hG : G < B) (a b c d e f g : Value) : OwnsR (set7 w G a b c d e f g) B ty cc v l :=
  ((((((h.setOther (a := ⟨G, 0, none⟩) hG a).setOther (a := ⟨G, 1, none⟩) hG b).setOther (a := ⟨G, 2, none⟩) hG c).setOther (a := ⟨G, 3, none⟩) hG d).setOther (a := ⟨G, 4, none⟩) hG e).setOther (a := ⟨G, 5, none⟩) hG f).setOther (a := ⟨G, 6, none⟩) hG g
/-- An item whose data are the caller's own. -/
def OwnEnd (w : World) (i : It) (e : Ending) (w' : World) : Prop := ∃ vd, e = .returned (itV i vd) ∧ OwnsR w' w.heap.size 9 1 vd (i.set.ds.map tv) ∧ Keeps w w'
theorem readS_tv {w : World} {v : Value} {ls : List (List UInt8)} (h : ReadS w v ls) : ReadRow w v 1 (ls.map tv) := by
  by_cases hp : 0 < ls.length
  · obtain ⟨b, off, cap, rfl, hb, hc, hle⟩ := h.parts hp
    refine ⟨_, cap, by rw [List.length_map], by rw [List.length_map]; exact hle, fun _ => ⟨b, off, rfl, hb, fun i hi j hj => ?_⟩⟩
    rw [List.length_map] at hi
    obtain rfl : j = 0 := by omega
    rw [Nat.mul_one, Nat.add_zero, hc i hi]
    simp [tv]
  · obtain rfl : ls = [] := List.length_eq_zero_iff.1 (by omega)
    obtain ⟨a, cap, rfl⟩ := h.len
    exact ReadRow.nil

theorem lawQ14 : Go.Maps.Keyed Try.prog 32 := Go.Maps.Keyed.of_law (Go.deep_law_laid (show laidOutB Try.prog = true by kernel_rfl) (m := 8) (by decide) (of_decide_eq_true (by kernel_rfl)) (by kernel_rfl) (by kernel_rfl))
/-- What is told of a key. -/
def TellOk (w' : World) (B : Nat) : Option It → Value → Prop
  | none, vi => vi = itV noIt (.slice none 0 0)
  | some i, vi => ∃ vd, vi = itV i vd ∧ OwnsR w' B 9 1 vd (i.set.ds.map tv)
def PeekEnd (w : World) (oi : Option It) (e : Ending) (w' : World) : Prop := ∃ vi, e = .returned (.tuple #[vi, .bool oi.isSome]) ∧ TellOk w' w.heap.size oi vi ∧ Keeps w w'
theorem live_zero (now : Int) : Ag.live now 0 = false := by
  unfold Ag.live Ag.isT
  by_cases h : 0 ≤ now ∧ now ≤ 1099511627776
  · have : ¬ now < 0 := by omega
    simp [this]
  · simp [h]

end Go.Proofs.Ytedcjkfiljjpiaa

namespace Go.Proofs.Ytedcjkfiljjpiaa
open Go.RowKit

theorem TellOk.le {w : World} {B B' : Nat} {oi : Option It} {vi : Value} (h : TellOk w B oi vi) (hb : B' ≤ B) : TellOk w B' oi vi := by
  cases oi with
  | none => exact h
  | some i =>
    obtain ⟨vd, h1, h2⟩ := h
    exact ⟨vd, h1, h2.le hb⟩
theorem TellOk.keeps {w w' : World} {B : Nat} {oi : Option It} {vi : Value} (h : TellOk w B oi vi) (k : Keeps w w') : TellOk w' B oi vi := by
  cases oi with
  | none => exact h
  | some i =>
    obtain ⟨vd, h1, h2⟩ := h
    exact ⟨vd, h1, h2.below k⟩
/-- What is told is a struct of seven cells. -/
theorem TellOk.form {w : World} {B : Nat} {oi : Option It} {vi : Value} (h : TellOk w B oi vi) : ∃ n t c a l cp ttl u rk, vi = .agg #[.string n, .int .i64 t, .int .i64 c, .slice a l cp, .int .i64 ttl, .int .i64 u, .int .i64 rk] := by
  cases oi with
  | none => rw [show vi = itV noIt (.slice none 0 0) from h]; exact ⟨_, _, _, _, _, _, _, _, _, rfl⟩
  | some i =>
    obtain ⟨vd, rfl, h2⟩ := h
    obtain ⟨a, c, rfl⟩ := h2.form
    exact ⟨_, _, _, _, _, _, _, _, _, rfl⟩
theorem TellOk.set7 {w : World} {B : Nat} {oi : Option It} {vi : Value} (h : TellOk w B oi vi) {G : Nat} (hG : G < B) (a b c d e f g : Value) : TellOk (set7 w G a b c d e f g) B oi vi := by
  cases oi with
  | none => exact (show vi = itV noIt (.slice none 0 0) from h)
  | some i =>
    obtain ⟨vd, h1, h2⟩ := h
    exact ⟨vd, h1, h2.set7 hG _ _ _ _ _ _ _⟩

theorem TellOk.setOther {w : World} {B : Nat} {oi : Option It} {vi : Value} (h : TellOk w B oi vi) {a : Addr} (ha : a.block < B) (u : Value) : TellOk (w.setCell a u) B oi vi := by
  cases oi with
  | none => exact (show vi = itV noIt (.slice none 0 0) from h)
  | some i =>
    obtain ⟨vd, h1, h2⟩ := h
    exact ⟨vd, h1, h2.setOther ha u⟩
theorem KB.setNew {p m : Nat} {a b : World} (h : KB p m a b) {x : Addr} (hx : a.heap.size ≤ x.block) (u : Value) : KB p m a (b.setCell x u) :=
  ⟨h.os, h.tape, h.output, by rw [show (b.setCell x u).heap.size = b.heap.size by simp [World.setCell]]; exact h.size, fun k hk hp hm => (Below.heap_setCell _ _ _ _ (by omega)).trans (h.block k hk hp hm)⟩
theorem KB.set7 {p m : Nat} {w W : World} (h : KB p m w W) {G : Nat} (hle : w.heap.size ≤ G) (a b c d e f g : Value) : KB p m w (set7 W G a b c d e f g) :=
  ((((((h.setNew (x := ⟨G, 0, none⟩) hle a).setNew (x := ⟨G, 1, none⟩) hle b).setNew (x := ⟨G, 2, none⟩) hle c).setNew (x := ⟨G, 3, none⟩) hle d).setNew (x := ⟨G, 4, none⟩) hle e).setNew (x := ⟨G, 5, none⟩) hle f).setNew (x := ⟨G, 6, none⟩) hle g
theorem heap_set7 (W : World) (G : Nat) (a b c d e f g : Value) (k : Nat) (hk : k ≠ G) : (set7 W G a b c d e f g).heap[k]? = W.heap[k]? := by
  unfold set7
  rw [Below.heap_setCell _ _ _ _ hk, Below.heap_setCell _ _ _ _ hk, Below.heap_setCell _ _ _ _ hk, Below.heap_setCell _ _ _ _ hk, Below.heap_setCell _ _ _ _ hk, Below.heap_setCell _ _ _ _ hk, Below.heap_setCell _ _ _ _ hk]

theorem get_some {s : Sto} {now : Int} {q : Qn} {i : It} (h : Sto.peek s now q = some i) : Sto.find s.items q = some i ∧ Sto.get s now q = ⟨s.room, Sto.without s.items q ++ [i], s.changes⟩ := by
  refine ⟨?_, by unfold Sto.get; rw [h]⟩
  unfold Sto.peek at h
  cases hf : Sto.find s.items q with
  | none => rw [hf] at h; cases h
  | some j =>
    rw [hf] at h
    simp only [Option.filter] at h
    split at h
    · exact h
    · cases h
/-- What is found of a store whose item was used. -/
theorem find_used {l : List It} {q : Qn} {i : It} (h : Sto.find l q = some i) (k : Qn) : Sto.find (Sto.without l q ++ [i]) k = Sto.find l k := by
  have hk := (Sto.find_key h).2
  rw [Sto.find_append, Sto.find_without]
  by_cases e : k = q
  · subst e
    rw [if_pos rfl, h]
    simp [Sto.find, hk]
  · rw [if_neg e]
    have : Sto.find [i] k = none := by simp [Sto.find, hk, Ne.symm e]
    rw [this]
    cases Sto.find l k <;> rfl
theorem used_ok {s : Sto} {q : Qn} {i : It} (h : StoOk s) (hf : Sto.find s.items q = some i) : StoOk ⟨s.room, Sto.without s.items q ++ [i], s.changes⟩ := by
  obtain ⟨hm, hk⟩ := Sto.find_key hf
  have hlen : (Sto.without s.items q).length < s.items.length := by
    unfold Sto.without
    exact List.length_filter_lt_length_iff_exists.2 ⟨i, hm, by simp [hk]⟩
  have hkeys : Sto.keysL (Sto.without s.items q ++ [i]) = Lr.touch s.keys q := by
    rw [← hk]; exact Sto.touch_keys _ _
  refine ⟨h.room, ?_, ?_, ?_, h.count⟩
  · have := h.len
    simp only [List.length_append, List.length_singleton]
    omega
  · show (Sto.keysL _).Nodup
    rw [hkeys]
    exact Sto.nodup_touch h.nodup q
  · intro j hj
    rw [List.mem_append, List.mem_singleton] at hj
    rcases hj with hj | hj
    · exact h.fine j (List.mem_filter.1 hj).1
    · subst hj; exact h.fine j hm

end Go.Proofs.Ytedcjkfiljjpiaa
