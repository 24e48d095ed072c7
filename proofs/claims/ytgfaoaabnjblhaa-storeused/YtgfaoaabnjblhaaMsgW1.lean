/- What decodeQuestion, decodeHead, sections of layer 8 answer. No condition. -/
import Derived.Test.YtgfaoaabnjblhaaMsg
namespace Go.Proofs.Ytgfaoaabnjblhaa
open Go.RowKit

theorem Blk.three {w : World} {G : Nat} {p q r : Value} {ty : TypeId} (h : Blk w G #[p, q, r] ty) :
    (w.cell? ⟨G, 0, none⟩ = some p ∧ w.cell? ⟨G, 1, none⟩ = some q ∧ w.cell? ⟨G, 2, none⟩ = some r) ∧ (w.frozen? ⟨G, 0, none⟩ = false ∧ w.frozen? ⟨G, 1, none⟩ = false ∧ w.frozen? ⟨G, 2, none⟩ = false) ∧ G < w.heap.size :=
  ⟨⟨h.cell 0, h.cell 1, h.cell 2⟩, ⟨h.frozen 0, h.frozen 1, h.frozen 2⟩, h.lt⟩
def d1Q (d : D1 Qn) : Value := .tuple #[qnV d.x, .int .i64 d.next, .int .i64 d.e]
def d1R (d : D1 Rec) : Value := .tuple #[recV d.x, .int .i64 d.next, .int .i64 d.e]

theorem decQ_bad {m : ByteArray} {p : Nat} (h : ¬ (Cm.readL (bl m) p).e = 0) : decQ m p = ⟨noQn, 0, (Cm.readL (bl m) p).e⟩ := by rw [decQ, if_neg h]
theorem decQ_cut {m : ByteArray} {p : Nat} (h : (Cm.readL (bl m) p).e = 0) (h2 : ¬ (Cm.readL (bl m) p).next + 4 ≤ m.size) : decQ m p = ⟨noQn, 0, 2⟩ := by rw [decQ, if_pos h, if_neg h2]
theorem decQ_yes {m : ByteArray} {p : Nat} (h : (Cm.readL (bl m) p).e = 0) (h2 : (Cm.readL (bl m) p).next + 4 ≤ m.size) :
    decQ m p = ⟨⟨rrS (Cm.readL (bl m) p), Oct.getN m (Cm.readL (bl m) p).next 2, Oct.getN m (((Cm.readL (bl m) p).next : Int) + 2) 2⟩, (Cm.readL (bl m) p).next + 4, 0⟩ := by rw [decQ, if_pos h, if_pos h2]; rfl

/-- The places of a message's lists, by the number of its block. -/
def secV (G : Nat) : Value := .agg #[.pointer (some ⟨G, 3, none⟩), .pointer (some ⟨G, 4, none⟩), .pointer (some ⟨G, 5, none⟩)]
def hc (m : ByteArray) (j k : Nat) : Value := .int .i64 (if k < j then num m k else 0)
def headA (m : ByteArray) (j : Nat) : Array Value := #[hc m j 0, hc m j 1, hc m j 2, hc m j 3, hc m j 4, hc m j 5]
theorem headA_zero (m : ByteArray) : headA m 0 = #[.int .i64 0, .int .i64 0, .int .i64 0, .int .i64 0, .int .i64 0, .int .i64 0] := rfl
theorem headA_six (m : ByteArray) : headA m 6 = #[.int .i64 (num m 0), .int .i64 (num m 1), .int .i64 (num m 2), .int .i64 (num m 3), .int .i64 (num m 4), .int .i64 (num m 5)] := rfl
theorem headA_step (m : ByteArray) (j : Nat) (hj : j < 6) : (headA m j).setIfInBounds j (.int .i64 (num m j)) = headA m (j + 1) := by
  rcases (show j = 0 ∨ j = 1 ∨ j = 2 ∨ j = 3 ∨ j = 4 ∨ j = 5 by omega) with rfl | rfl | rfl | rfl | rfl | rfl <;> rfl
/-- What decodeHead answers. -/
def hd (m : ByteArray) (k : Nat) : Int := if 12 ≤ m.size then num m k else 0
def hdV (m : ByteArray) : Value := .tuple #[.agg #[.int .i64 (hd m 0), .int .i64 (hd m 1), .int .i64 (hd m 2), .int .i64 (hd m 3), .int .i64 (hd m 4), .int .i64 (hd m 5)], .bool (decide (12 ≤ m.size))]
theorem hdV_yes {m : ByteArray} (h : 12 ≤ m.size) : hdV m = .tuple #[.agg (headA m 6), .bool true] := by simp [hdV, hd, h, headA, hc]
theorem hdV_no {m : ByteArray} (h : ¬ 12 ≤ m.size) : hdV m = .tuple #[.agg (headA m 0), .bool false] := by simp [hdV, hd, h, headA, hc]
theorem Blk.six {w : World} {G : Nat} {p q r s t u : Value} {ty : TypeId} (h : Blk w G #[p, q, r, s, t, u] ty) :
    (w.cell? ⟨G, 0, none⟩ = some p ∧ w.cell? ⟨G, 1, none⟩ = some q ∧ w.cell? ⟨G, 2, none⟩ = some r ∧ w.cell? ⟨G, 3, none⟩ = some s ∧ w.cell? ⟨G, 4, none⟩ = some t ∧ w.cell? ⟨G, 5, none⟩ = some u) ∧
    (w.frozen? ⟨G, 0, none⟩ = false ∧ w.frozen? ⟨G, 1, none⟩ = false ∧ w.frozen? ⟨G, 2, none⟩ = false ∧ w.frozen? ⟨G, 3, none⟩ = false ∧ w.frozen? ⟨G, 4, none⟩ = false ∧ w.frozen? ⟨G, 5, none⟩ = false) ∧ G < w.heap.size :=
  ⟨⟨h.cell 0, h.cell 1, h.cell 2, h.cell 3, h.cell 4, h.cell 5⟩, ⟨h.frozen 0, h.frozen 1, h.frozen 2, h.frozen 3, h.frozen 4, h.frozen 5⟩, h.lt⟩
theorem Keeps.six {a b : World} (h : Keeps a b) (G : Nat) (hle : a.heap.size ≤ G) (p q r s t u : Value) : Keeps a ((((((b.setCell ⟨G, 0, none⟩ p).setCell ⟨G, 1, none⟩ q).setCell ⟨G, 2, none⟩ r).setCell ⟨G, 3, none⟩ s).setCell ⟨G, 4, none⟩ t).setCell ⟨G, 5, none⟩ u) :=
  (((((h.setC _ hle _).setC _ hle _).setC _ hle _).setC _ hle _).setC _ hle _).setC _ hle _

end Go.Proofs.Ytgfaoaabnjblhaa
