/- Blocks of ten cells, and of five, written whole. No condition. -/
import Derived.Test.YtdlaepfnogmebaaStoW
namespace Go.Proofs.Ytdlaepfnogmebaa
open Go.RowKit

theorem Blk.ten {w : World} {G : Nat} {u0 u1 u2 u3 u4 u5 u6 u7 u8 u9 : Value} {ty : TypeId} (h : Blk w G #[u0, u1, u2, u3, u4, u5, u6, u7, u8, u9] ty) :
    (w.cell? ⟨G, 0, none⟩ = some u0 ∧ w.cell? ⟨G, 1, none⟩ = some u1 ∧ w.cell? ⟨G, 2, none⟩ = some u2 ∧ w.cell? ⟨G, 3, none⟩ = some u3 ∧ w.cell? ⟨G, 4, none⟩ = some u4 ∧ w.cell? ⟨G, 5, none⟩ = some u5 ∧ w.cell? ⟨G, 6, none⟩ = some u6 ∧ w.cell? ⟨G, 7, none⟩ = some u7 ∧ w.cell? ⟨G, 8, none⟩ = some u8 ∧ w.cell? ⟨G, 9, none⟩ = some u9) ∧
    (w.frozen? ⟨G, 0, none⟩ = false ∧ w.frozen? ⟨G, 1, none⟩ = false ∧ w.frozen? ⟨G, 2, none⟩ = false ∧ w.frozen? ⟨G, 3, none⟩ = false ∧ w.frozen? ⟨G, 4, none⟩ = false ∧ w.frozen? ⟨G, 5, none⟩ = false ∧ w.frozen? ⟨G, 6, none⟩ = false ∧ w.frozen? ⟨G, 7, none⟩ = false ∧ w.frozen? ⟨G, 8, none⟩ = false ∧ w.frozen? ⟨G, 9, none⟩ = false) ∧ G < w.heap.size :=
  ⟨⟨h.cell 0, h.cell 1, h.cell 2, h.cell 3, h.cell 4, h.cell 5, h.cell 6, h.cell 7, h.cell 8, h.cell 9⟩, ⟨h.frozen 0, h.frozen 1, h.frozen 2, h.frozen 3, h.frozen 4, h.frozen 5, h.frozen 6, h.frozen 7, h.frozen 8, h.frozen 9⟩, h.lt⟩
/-- A struct of ten cells, written. -/
def set10 (W : World) (G : Nat) (u0 u1 u2 u3 u4 u5 u6 u7 u8 u9 : Value) : World := (((((((((W.setCell ⟨G, 0, none⟩ u0).setCell ⟨G, 1, none⟩ u1).setCell ⟨G, 2, none⟩ u2).setCell ⟨G, 3, none⟩ u3).setCell ⟨G, 4, none⟩ u4).setCell ⟨G, 5, none⟩ u5).setCell ⟨G, 6, none⟩ u6).setCell ⟨G, 7, none⟩ u7).setCell ⟨G, 8, none⟩ u8).setCell ⟨G, 9, none⟩ u9
theorem set10_blk {W : World} {G : Nat} {z0 z1 z2 z3 z4 z5 z6 z7 z8 z9 : Value} {ty : TypeId} (h : Blk W G #[z0, z1, z2, z3, z4, z5, z6, z7, z8, z9] ty) (u0 u1 u2 u3 u4 u5 u6 u7 u8 u9 : Value) : Blk (set10 W G u0 u1 u2 u3 u4 u5 u6 u7 u8 u9) G #[u0, u1, u2, u3, u4, u5, u6, u7, u8, u9] ty := by
  have h0 := h.set 0 u0
  have h1 := h0.set 1 u1
  have h2 := h1.set 2 u2
  have h3 := h2.set 3 u3
  have h4 := h3.set 4 u4
  have h5 := h4.set 5 u5
  have h6 := h5.set 6 u6
  have h7 := h6.set 7 u7
  have h8 := h7.set 8 u8
  have h9 := h8.set 9 u9
  simp at h9
  exact h9
theorem set10_keeps {w W : World} (K : Keeps w W) {G : Nat} (hle : w.heap.size ≤ G) (u0 u1 u2 u3 u4 u5 u6 u7 u8 u9 : Value) : Keeps w (set10 W G u0 u1 u2 u3 u4 u5 u6 u7 u8 u9) :=
  (((((((((K.setC _ hle _).setC _ hle _).setC _ hle _).setC _ hle _).setC _ hle _).setC _ hle _).setC _ hle _).setC _ hle _).setC _ hle _).setC _ hle _
theorem OwnsR.set10 {w : World} {B : Nat} {ty : TypeId} {cc : Nat} {v : Value} {rows : List (List Value)} (h : OwnsR w B ty cc v rows) {G : Nat} (hG : G < B) (u0 u1 u2 u3 u4 u5 u6 u7 u8 u9 : Value) : OwnsR (set10 w G u0 u1 u2 u3 u4 u5 u6 u7 u8 u9) B ty cc v rows :=
  (((((((((h.setOther (a := ⟨G, 0, none⟩) hG u0).setOther (a := ⟨G, 1, none⟩) hG u1).setOther (a := ⟨G, 2, none⟩) hG u2).setOther (a := ⟨G, 3, none⟩) hG u3).setOther (a := ⟨G, 4, none⟩) hG u4).setOther (a := ⟨G, 5, none⟩) hG u5).setOther (a := ⟨G, 6, none⟩) hG u6).setOther (a := ⟨G, 7, none⟩) hG u7).setOther (a := ⟨G, 8, none⟩) hG u8).setOther (a := ⟨G, 9, none⟩) hG u9
theorem heap_set10 (W : World) (G : Nat) (u0 u1 u2 u3 u4 u5 u6 u7 u8 u9 : Value) (k : Nat) (hk : k ≠ G) : (set10 W G u0 u1 u2 u3 u4 u5 u6 u7 u8 u9).heap[k]? = W.heap[k]? := by
  unfold set10
  rw [Below.heap_setCell _ _ _ _ hk, Below.heap_setCell _ _ _ _ hk, Below.heap_setCell _ _ _ _ hk, Below.heap_setCell _ _ _ _ hk, Below.heap_setCell _ _ _ _ hk, Below.heap_setCell _ _ _ _ hk, Below.heap_setCell _ _ _ _ hk, Below.heap_setCell _ _ _ _ hk, Below.heap_setCell _ _ _ _ hk, Below.heap_setCell _ _ _ _ hk]
theorem KB.set10 {p m : Nat} {w W : World} (h : KB p m w W) {G : Nat} (hle : w.heap.size ≤ G) (u0 u1 u2 u3 u4 u5 u6 u7 u8 u9 : Value) : KB p m w (set10 W G u0 u1 u2 u3 u4 u5 u6 u7 u8 u9) :=
  (((((((((h.setNew (x := ⟨G, 0, none⟩) hle u0).setNew (x := ⟨G, 1, none⟩) hle u1).setNew (x := ⟨G, 2, none⟩) hle u2).setNew (x := ⟨G, 3, none⟩) hle u3).setNew (x := ⟨G, 4, none⟩) hle u4).setNew (x := ⟨G, 5, none⟩) hle u5).setNew (x := ⟨G, 6, none⟩) hle u6).setNew (x := ⟨G, 7, none⟩) hle u7).setNew (x := ⟨G, 8, none⟩) hle u8).setNew (x := ⟨G, 9, none⟩) hle u9
/-- A struct of five cells, written. -/
def set5 (W : World) (G : Nat) (a b c d e : Value) : World := ((((W.setCell ⟨G, 0, none⟩ a).setCell ⟨G, 1, none⟩ b).setCell ⟨G, 2, none⟩ c).setCell ⟨G, 3, none⟩ d).setCell ⟨G, 4, none⟩ e
theorem set5_blk {W : World} {G : Nat} {z0 z1 z2 z3 z4 : Value} {ty : TypeId} (h : Blk W G #[z0, z1, z2, z3, z4] ty) (a b c d e : Value) : Blk (set5 W G a b c d e) G #[a, b, c, d, e] ty := by
  have h0 := h.set 0 a
  have h1 := h0.set 1 b
  have h2 := h1.set 2 c
  have h3 := h2.set 3 d
  have h4 := h3.set 4 e
  simp at h4
  exact h4
theorem heap_set5 (W : World) (G : Nat) (a b c d e : Value) (k : Nat) (hk : k ≠ G) : (set5 W G a b c d e).heap[k]? = W.heap[k]? := by
  unfold set5
  rw [Below.heap_setCell _ _ _ _ hk, Below.heap_setCell _ _ _ _ hk, Below.heap_setCell _ _ _ _ hk, Below.heap_setCell _ _ _ _ hk, Below.heap_setCell _ _ _ _ hk]
theorem set5_keeps {w W : World} (K : Keeps w W) {G : Nat} (hle : w.heap.size ≤ G) (a b c d e : Value) : Keeps w (set5 W G a b c d e) :=
  ((((K.setC _ hle _).setC _ hle _).setC _ hle _).setC _ hle _).setC _ hle _
theorem Blk.five_all {w : World} {G : Nat} {a b c d e : Value} {ty : TypeId} (h : Blk w G #[a, b, c, d, e] ty) :
    (w.cell? ⟨G, 0, none⟩ = some a ∧ w.cell? ⟨G, 1, none⟩ = some b ∧ w.cell? ⟨G, 2, none⟩ = some c ∧ w.cell? ⟨G, 3, none⟩ = some d ∧ w.cell? ⟨G, 4, none⟩ = some e) ∧
    (w.frozen? ⟨G, 0, none⟩ = false ∧ w.frozen? ⟨G, 1, none⟩ = false ∧ w.frozen? ⟨G, 2, none⟩ = false ∧ w.frozen? ⟨G, 3, none⟩ = false ∧ w.frozen? ⟨G, 4, none⟩ = false) ∧ G < w.heap.size :=
  ⟨⟨h.cell 0, h.cell 1, h.cell 2, h.cell 3, h.cell 4⟩, ⟨h.frozen 0, h.frozen 1, h.frozen 2, h.frozen 3, h.frozen 4⟩, h.lt⟩
end Go.Proofs.Ytdlaepfnogmebaa
