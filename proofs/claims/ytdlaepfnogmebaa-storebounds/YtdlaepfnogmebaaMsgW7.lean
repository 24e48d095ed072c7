/- What slices.Equal, and the document's Same of layer 6, answer of questions and records; what Same of layer 8 answers. No condition. -/
import Derived.Test.YtdlaepfnogmebaaMsgW6
namespace Go.Proofs.Ytdlaepfnogmebaa
open Go.RowKit

theorem bytes_eq (a b : ByteArray) : a.toList = b.toList ↔ a = b := by
  constructor
  · intro h
    apply bl_inj
    rw [← toList_bl, ← toList_bl, h]
  · intro h; rw [h]
theorem neq_qn (p q : Qn) (w : World) : (binOp .neq 32 (.agg #[.string p.n, .int .i64 p.t, .int .i64 p.c]) (.agg #[.string q.n, .int .i64 q.t, .int .i64 q.c])).run Try.prog w = .ok (.bool (!decide (p = q))) w := by
  obtain ⟨a, x, y⟩ := p
  obtain ⟨b, z, u⟩ := q
  simp [go_sem, bytes_eq]
  by_cases h1 : a = b
  · by_cases h2 : x = z
    · by_cases h3 : y = u
      · simp [h1, h2, h3]
      · simp [h1, h2, h3]
    · simp [h1, h2]
  · simp [h1]
theorem neq_rec (p q : Rec) (w : World) : (binOp .neq 161 (.agg #[.string p.n, .int .i64 p.t, .int .i64 p.c, .int .i64 p.l, .string p.d]) (.agg #[.string q.n, .int .i64 q.t, .int .i64 q.c, .int .i64 q.l, .string q.d])).run Try.prog w = .ok (.bool (!decide (p = q))) w := by
  obtain ⟨a, x, y, s, c⟩ := p
  obtain ⟨b, z, u, t, d⟩ := q
  simp [go_sem, bytes_eq]
  by_cases h1 : a = b
  · by_cases h2 : x = z
    · by_cases h3 : y = u
      · by_cases h4 : s = t
        · by_cases h5 : c = d
          · simp [h1, h2, h3, h4, h5]
          · simp [h1, h2, h3, h4, h5]
        · simp [h1, h2, h3, h4]
      · simp [h1, h2, h3]
    · simp [h1, h2]
  · simp [h1]
theorem take8_step {α : Type} {l k : List α} {j : Nat} (hl : j < l.length) (hk : j < k.length) (h : l.take j = k.take j) (e : l[j] = k[j]) : l.take (j + 1) = k.take (j + 1) := by
  rw [List.take_succ_eq_append_getElem hl, List.take_succ_eq_append_getElem hk, h, e]
theorem ne_at {α : Type} {l k : List α} {j : Nat} (hl : j < l.length) (hk : j < k.length) (e : ¬ l[j] = k[j]) : ¬ l = k := by
  intro h
  subst h
  exact e rfl

theorem Six8.keeps {a b c : Addr} {x y z : Value} {w w' : World} (h : w.cell? a = some x ∧ w.cell? b = some y ∧ w.cell? c = some z ∧ a.block < w.heap.size ∧ b.block < w.heap.size ∧ c.block < w.heap.size) (k : Keeps w w') :
    w'.cell? a = some x ∧ w'.cell? b = some y ∧ w'.cell? c = some z ∧ a.block < w'.heap.size ∧ b.block < w'.heap.size ∧ c.block < w'.heap.size :=
  ⟨(Below.cell k h.2.2.2.1).trans h.1, (Below.cell k h.2.2.2.2.1).trans h.2.1, (Below.cell k h.2.2.2.2.2).trans h.2.2.1, Nat.lt_of_lt_of_le h.2.2.2.1 k.size, Nat.lt_of_lt_of_le h.2.2.2.2.1 k.size, Nat.lt_of_lt_of_le h.2.2.2.2.2 k.size⟩
theorem ms_eq (m k : Ms) : decide (m = k) = (decide (m.id = k.id) && decide (m.bits = k.bits) && decide (m.qs = k.qs) && decide (m.an = k.an) && decide (m.ns = k.ns) && decide (m.ar = k.ar)) := by
  obtain ⟨a, b, c, d, e, f⟩ := m
  obtain ⟨a', b', c', d', e', f'⟩ := k
  simp only [Ms.mk.injEq, Bool.decide_and, Bool.and_assoc]
/-- Two messages that were boxed. -/
def MsLens (m : Ms) : Prop := m.qs.length ≤ maxLen ∧ m.an.length ≤ maxLen ∧ m.ns.length ≤ maxLen ∧ m.ar.length ≤ maxLen
theorem MsFine.lens {m : Ms} (h : MsFine m) : MsLens m := ⟨h.1.1, h.2.1.1, h.2.2.1.1, h.2.2.2.1⟩

end Go.Proofs.Ytdlaepfnogmebaa
