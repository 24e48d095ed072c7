/- A store out of which something is dropped; a change is counted as the call ends. No condition but lengths. A store out of which something is dropped. No condition but lengths. A store into which something is laid. No condition but lengths. -/
import Derived.Test.YtedcjkfiljjpiaaStoG
import Derived.Deep.RegionLaw
import Derived.BigQuiet
namespace Go.Proofs.Ytedcjkfiljjpiaa
open Go.RowKit

/-- What the deferred closures do: nothing, or they count. -/
def Counted (w : World) (sp : Option Nat) (n : Int) (yes : Bool) (w' : World) : Prop := (yes = false ∧ w' = w) ∨ (yes = true ∧ ∃ p, sp = some p ∧ w' = w.setCell ⟨p, 3, none⟩ (.int .i64 (n + 1)))
def ptrV : Option Nat → Value | none => .pointer none | some p => .pointer (some ⟨p, 0, none⟩)
end Go.Proofs.Ytedcjkfiljjpiaa

namespace Go.Proofs.Ytedcjkfiljjpiaa
open Go.RowKit

theorem fok_some {w : World} {p m : Nat} {oi : Option It} {ov : Option Value} (h : FOk w p m oi ov) : ov.isSome = oi.isSome := by
  cases oi with
  | none => rw [show ov = none from h]; rfl
  | some i => obtain ⟨vd, h1, _⟩ := h; rw [h1]; rfl
theorem fok_val {w : World} {p m : Nat} {oi : Option It} {ov : Option Value} (h : FOk w p m oi ov) : ∃ n t c a l cp ttl u rk, ov.getD (itV noIt (.slice none 0 0)) = .agg #[.string n, .int .i64 t, .int .i64 c, .slice a l cp, .int .i64 ttl, .int .i64 u, .int .i64 rk] := by
  cases oi with
  | none => rw [show ov = none from h]; exact ⟨_, _, _, _, _, _, _, _, _, rfl⟩
  | some i =>
    obtain ⟨vd, h1, h2, _⟩ := h
    obtain ⟨a, c, rfl⟩ := h2.len
    rw [h1]
    exact ⟨_, _, _, _, _, _, _, _, _, rfl⟩
theorem dropped_ok {s : Sto} {q : Qn} (h : StoOk s) : StoOk ⟨s.room, Sto.without s.items q, s.changes + 1⟩ := by
  refine ⟨h.room, ?_, ?_, fun i hi => h.fine i (List.mem_filter.1 hi).1, ?_⟩
  · have := h.len
    have := Sto.without_len s.items q
    show ((Sto.without s.items q).length : Int) ≤ s.room
    omega
  · show (Sto.keysL (Sto.without s.items q)).Nodup
    rw [Sto.without_keys]
    exact Sto.nodup_drop h.nodup q
  · have := h.count
    show 0 ≤ s.changes + 1
    omega
theorem mapTurned_other {w w' : World} {m k : Nat} (h : w.mapTurned w' m) (hk : k < w.heap.size) (hne : k ≠ m) : w'.heap[k]? = w.heap[k]? := (h.grown).block k hk (by simp; exact hne)
theorem Blk.turned {w w' : World} {m G : Nat} {cs : Array Value} {ty : TypeId} (h : Blk w G cs ty) (t : w.mapTurned w' m) (hne : G ≠ m) : Blk w' G cs ty := (mapTurned_other t h.lt hne).trans h

end Go.Proofs.Ytedcjkfiljjpiaa

namespace Go.Proofs.Ytedcjkfiljjpiaa
open Go.RowKit

theorem Sto.touch_len' (l : List Qn) (q : Qn) : (Lr.touch l q).length ≤ l.length + 1 := by
  unfold Lr.touch
  rw [List.length_append]
  have := Lr.drop_len l q
  simp; omega
theorem MapV.drewKeeps {w w' : World} {k : TypeId} {α : Type} {kv : α → Value} {b n : Nat} {f : α → Option Value} (h : MapV w k kv b n f) (kk : Keeps w.drew w') : MapV w' k kv b n f := MapV.same h (kk.block b h.lt)
/-- Does what is kept give way? -/
def Sto.yields (s : Sto) (now : Int) (q : Qn) (rank : Int) : Bool := match Sto.find s.items q with | some i => Rk.over i.rank (Ag.live now i.u) rank | none => true

theorem OwnsR.above {w : World} {B : Nat} {ty : TypeId} {c : Nat} {v : Value} {rows : List (List Value)} (h : OwnsR w B ty c v rows) : ∀ a k cp, v = .slice (some a) k cp → B ≤ a.block := by
  intro a n cap e
  rcases h.1.2 with ⟨rfl, _⟩ | ⟨g, cap', cur, rfl, hB, _⟩
  · cases e
  · simp only [Value.slice.injEq, Option.some.injEq] at e
    obtain ⟨rfl, _⟩ := e
    exact hB

end Go.Proofs.Ytedcjkfiljjpiaa
