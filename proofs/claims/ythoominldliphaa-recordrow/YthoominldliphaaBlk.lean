/- A block of the heap whose cells are all known. No condition. -/
import Derived.Test.YthoominldliphaaAid
namespace Go.Proofs.Ythoominldliphaa
open Go.RowKit

/-- Block G holds just these cells, and may be written. -/
def Blk (w : World) (G : Nat) (cs : Array Value) (ty : TypeId) : Prop := w.heap[G]? = some (.cells cs ty)
theorem Blk.made (w : World) (cs : Array Value) (ty : TypeId) : Blk (w.alloc (.cells cs ty)) w.heap.size cs ty := heap_alloc_new w _
theorem Blk.lt {w : World} {G : Nat} {cs : Array Value} {ty : TypeId} (h : Blk w G cs ty) : G < w.heap.size := by
  rcases Nat.lt_or_ge G w.heap.size with h1 | h1
  · exact h1
  · unfold Blk at h; rw [Array.getElem?_eq_none h1] at h; cases h
theorem Blk.below {w w' : World} {G B : Nat} {cs : Array Value} {ty : TypeId} (h : Blk w G cs ty) (hb : Below B w w') (hG : G < B) : Blk w' G cs ty := (hb.block G hG).trans h
theorem Blk.keeps {w w' : World} {G : Nat} {cs : Array Value} {ty : TypeId} (h : Blk w G cs ty) (k : Keeps w w') : Blk w' G cs ty := h.below k h.lt
theorem Blk.alloc {w : World} {G : Nat} {cs : Array Value} {ty : TypeId} (h : Blk w G cs ty) (o : Obj) : Blk (w.alloc o) G cs ty := h.keeps ((Keeps.refl w).alloc o)
theorem Blk.drew {w : World} {G : Nat} {cs : Array Value} {ty : TypeId} (h : Blk w G cs ty) : Blk w.drew G cs ty := h
theorem Blk.cell {w : World} {G : Nat} {cs : Array Value} {ty : TypeId} (h : Blk w G cs ty) (i : Nat) : w.cell? ⟨G, i, none⟩ = cs[i]? := by
  unfold Blk at h
  simp only [World.cell?, h]
  rfl
theorem Blk.frozen {w : World} {G : Nat} {cs : Array Value} {ty : TypeId} (h : Blk w G cs ty) (i : Nat) : w.frozen? ⟨G, i, none⟩ = false := by
  unfold Blk at h
  simp only [World.frozen?, h]
  simp
theorem Blk.other {w : World} {G : Nat} {cs : Array Value} {ty : TypeId} (h : Blk w G cs ty) {a : Addr} (ha : a.block ≠ G) (u : Value) : Blk (w.setCell a u) G cs ty :=
  (Below.heap_setCell w a u G (fun e => ha e.symm)).trans h
theorem Blk.set {w : World} {G : Nat} {cs : Array Value} {ty : TypeId} (h : Blk w G cs ty) (i : Nat) (u : Value) : Blk (w.setCell ⟨G, i, none⟩ u) G (cs.setIfInBounds i u) ty := by
  have h' := h
  unfold Blk at h ⊢
  simp only [World.setCell, Array.getElem?_modify, h, Option.map_some]
  rfl
theorem Keeps.setC {a b : World} (h : Keeps a b) (p : Addr) (hp : a.heap.size ≤ p.block) (u : Value) : Keeps a (b.setCell p u) := Below.setCell h hp u
end Go.Proofs.Ythoominldliphaa
