/- What Encode of layer 8 answers. No condition. -/
import Derived.Test.YtojihkejlmggcaaDoorMsgW9
namespace Go.Proofs.YtojihkejlmggcaaDoor
open Go.RowKit

theorem appR_len (base : ByteArray) : ∀ (l : List Rec) (b : ByteArray), (∀ r ∈ l, r.d.size ≤ 65535) → b.size ≤ 50000000 → (appR base b l).size ≤ 50000000
  | [], b, _, hb => hb
  | r :: l, b, h, hb => by
    by_cases h1 : 65535 < b.size
    · rw [appR_long base b _ h1]; exact hb
    · rw [appR_step base b _ _ h1]
      refine appR_len base l _ (fun x hx => h x (by simp [hx])) ?_
      have := enc_len base r (h r (by simp))
      rw [ByteArray.size_append]
      omega
theorem qs_fine {m : Ms} (h : msOk m = true) : (∀ q ∈ m.qs, q.n.size ≤ 255) ∧ m.qs.length ≤ 65535 ∧ m.an.length ≤ 65535 ∧ m.ns.length ≤ 65535 ∧ m.ar.length ≤ 65535 ∧ (∀ r ∈ m.an, r.n.size ≤ 255 ∧ r.d.size ≤ 65535) ∧ (∀ r ∈ m.ns, r.n.size ≤ 255 ∧ r.d.size ≤ 65535) ∧ (∀ r ∈ m.ar, r.n.size ≤ 255 ∧ r.d.size ≤ 65535) := by
  simp only [msOk, Bool.and_eq_true, List.all_eq_true, num2, decide_eq_true_eq] at h
  obtain ⟨⟨⟨⟨⟨_, _⟩, q1, q2⟩, a1, a2⟩, n1, n2⟩, r1, r2⟩ := h
  have hR : ∀ r, recOk r = true → r.n.size ≤ 255 ∧ r.d.size ≤ 65535 := by
    intro r hr
    have hs := (recOk_spec r).1 hr
    have := ((Nm.okL_spec _).1 hs.1).1
    rw [bl_length] at this
    exact ⟨this, check_len hs.2.2.2.2⟩
  refine ⟨?_, by omega, by omega, by omega, by omega, fun r hr => hR r (a2 r hr), fun r hr => hR r (n2 r hr), fun r hr => hR r (r2 r hr)⟩
  intro q hq
  have := q2 q hq
  simp only [qnOk, Bool.and_eq_true] at this
  have := ((Nm.okL_spec _).1 this.1.1).1
  rwa [bl_length] at this
def rest4 (a n r : List Rec) (j : Nat) : List Rec := if j = 0 then a ++ n ++ r else if j = 1 then n ++ r else if j = 2 then r else []
theorem ReadRow.inB {w : World} {v : Value} {c : Nat} {α : Type} {l : List α} {f : α → List Value} (h : ReadRow w v c (l.map f)) : 0 < l.length → ∀ b, v.ownBlock = some b → b < w.heap.size := by
  intro hl b hb
  obtain ⟨a, cap, rfl⟩ := h.len
  obtain ⟨b', off, rfl, hlt, _⟩ := h.parts (by rw [List.length_map]; omega)
  simp only [Value.ownBlock, Option.some.injEq] at hb
  omega

/-- The six cells of a message that was boxed. -/
def Six6 (M : Nat) (a b c d e f : Value) (w : World) : Prop :=
  w.cell? ⟨M, 0, none⟩ = some a ∧ w.cell? ⟨M, 1, none⟩ = some b ∧ w.cell? ⟨M, 2, none⟩ = some c ∧ w.cell? ⟨M, 3, none⟩ = some d ∧ w.cell? ⟨M, 4, none⟩ = some e ∧ w.cell? ⟨M, 5, none⟩ = some f ∧ M < w.heap.size
theorem Blk.six6 {w : World} {M : Nat} {a b c d e f : Value} {ty : TypeId} (h : Blk w M #[a, b, c, d, e, f] ty) : Six6 M a b c d e f w := ⟨h.cell 0, h.cell 1, h.cell 2, h.cell 3, h.cell 4, h.cell 5, h.lt⟩

end Go.Proofs.YtojihkejlmggcaaDoor
