/- Keys that are structs: questions, and members of sets. No condition but lengths. -/
import Derived.Test.YtgfaoaabnjblhaaGrp4
import Derived.DeepKeys4
namespace Go.Proofs.Ytgfaoaabnjblhaa
open Go.RowKit
open Go.Maps (Keyed)

theorem laidOutG : laidOutB Try.prog = true := by kernel_rfl
theorem lawQ : Keyed Try.prog 32 := Keyed.of_law (Go.deep_law_laid laidOutG (m := 8) (by decide) (of_decide_eq_true (by kernel_rfl)) (by kernel_rfl) (by kernel_rfl))
def memV (p : Int × List UInt8) : Value := .agg #[.int .i64 p.1, sv p.2]
theorem memV_inj (x y : Int × List UInt8) (h : memV x = memV y) : x = y := by
  obtain ⟨a, b⟩ := x
  obtain ⟨c, d⟩ := y
  simpa [memV, sv] using h
theorem qnV_inj (x y : Qn) (h : qnV x = qnV y) : x = y := by
  obtain ⟨a, b, c⟩ := x
  obtain ⟨d, e, f⟩ := y
  simpa [qnV] using h
theorem keyTQ : Try.prog.keyType 32 = true := by kernel_rfl
theorem keyQ (q : Qn) (hn : q.n.size ≤ maxLen) (ht : -9223372036854775808 ≤ q.t ∧ q.t ≤ 9223372036854775807) (hc : -9223372036854775808 ≤ q.c ∧ q.c ≤ 9223372036854775807) : ∃ kl, keyOf Try.prog 32 (qnV q) = some kl := by
  have w1 : (Lit.int .i64 q.t).wf = true := WalkArith.wf_i64 (by omega)
  have w2 : (Lit.int .i64 q.c).wf = true := WalkArith.wf_i64 (by omega)
  have hfm : Value.formed Try.prog 32 (qnV q) = true := by
    unfold qnV Value.formed
    rw [Try.underlying32]
    have hC : Try.prog.cellsOf 32 = 3 := by kernel_rfl
    simp [hC]
  obtain ⟨m, hm⟩ : ∃ m, Try.prog.types.size = m + 1 := ⟨Try.prog.types.size - 1, by kernel_rfl⟩
  unfold keyOf
  rw [Try.underlying32]
  simp only [keyTQ, hfm, Bool.and_self, if_true]
  rw [hm]
  have hC : Try.prog.cellsOf 32 = 3 := by kernel_rfl
  have hC1 : Try.prog.cellsOf 9 = 1 := by kernel_rfl
  have hC2 : Try.prog.cellsOf 3 = 1 := by kernel_rfl
  unfold Program.keyLits
  rw [Try.underlying32]
  simp only [qnV, Value.cells, hC]
  simp [hC1, hC2, Program.keyLits, Try.underlying9, Try.underlying3, hn, w1, w2]
/-! ### Sets that a call itself makes -/
def stL (s : St) (vd : Value) : List Value := [.string s.key.n, .int .i64 s.key.t, .int .i64 s.key.c, vd, .int .i64 s.ttl]
def stR (x : St × Value) : List Value := stL x.1 x.2
theorem infoSet : (Try.prog.info? 35).map (fun i => (i.zero, i.size, i.bytes)) = some (some (.agg #[.string ⟨#[]⟩, .int .i64 0, .int .i64 0, .slice none 0 0, .int .i64 0]), 5, 64) := by kernel_rfl
/-- The slice v, in blocks from B on, holds these sets; each one's data lie in a block of their own. -/
structure SetsOwn (w : World) (B : Nat) (v : Value) (ss : List (St × Value)) : Prop where
  row : OwnsR w B 35 5 v (ss.map stR)
  ds : ∀ x ∈ ss, OwnsS w B x.2 x.1.ds
  apart : ∀ i j (hi : i < ss.length) (hj : j < ss.length), i ≠ j → ∀ g, ss[i].2.ownBlock = some g → ss[j].2.ownBlock ≠ some g
/-- The slice v reads as these sets. -/
def SetsAt (w : World) (v : Value) (l : List St) : Prop := ∃ ss : List (St × Value), ss.map (·.1) = l ∧ ReadRow w v 5 (ss.map stR) ∧ ∀ x ∈ ss, ReadS w x.2 x.1.ds
theorem SetsOwn.read {w : World} {B : Nat} {v : Value} {ss : List (St × Value)} (h : SetsOwn w B v ss) : SetsAt w v (ss.map (·.1)) := ⟨ss, rfl, h.row.read, fun x hx => (h.ds x hx).read⟩
theorem SetsOwn.below {w w' : World} {B : Nat} {v : Value} {ss : List (St × Value)} (h : SetsOwn w B v ss) (k : Keeps w w') : SetsOwn w' B v ss := ⟨h.row.below k, fun x hx => (h.ds x hx).below k, h.apart⟩
theorem SetsOwn.nil (w : World) (B : Nat) : SetsOwn w B (.slice none 0 0) [] := ⟨OwnsR.nil _ _ _ _, by simp, fun i j hi => by simp at hi⟩
end Go.Proofs.Ytgfaoaabnjblhaa
