/- DataExpands answers true, for every input: the walk. -/
import Derived.Test.YtfhdibkacclkaaaDataLive
namespace Go.Proofs.Ytfhdibkacclkaaa
open Go.RowKit

/-- The two cells of an array that was boxed in block G. -/
def Box2 (G : Nat) (p q : Value) (w : World) : Prop := w.cell? ⟨G, 0, none⟩ = some p ∧ w.cell? ⟨G, 1, none⟩ = some q ∧ G < w.heap.size
theorem Box2.keeps {G : Nat} {p q : Value} {w w' : World} (h : Box2 G p q w) (hk : Keeps w w') : Box2 G p q w' :=
  ⟨(hk.cell (p := ⟨G, 0, none⟩) h.2.2).trans h.1, (hk.cell (p := ⟨G, 1, none⟩) h.2.2).trans h.2.1, Nat.lt_of_lt_of_le h.2.2 hk.size⟩
theorem Box2.made (w : World) (p q : Value) (t : TypeId) : Box2 w.heap.size p q (w.alloc (.cells #[p, q] t)) := by
  refine ⟨?_, ?_, by simp⟩
  · exact (World.cell?_alloc_mark w _ _ (0, 0) 0).trans rfl
  · exact (World.cell?_alloc_mark w _ _ (0, 0) 1).trans rfl

set_option maxHeartbeats 1600000 in
theorem DataExpands_walk (m : ByteArray) (p n k : Int) (w : World) (hm : m.size ≤ maxLen) (hp : -9223372036854775808 ≤ p ∧ p ≤ 9223372036854775807) (_ : -9223372036854775808 ≤ n ∧ n ≤ 9223372036854775807) (_ : -9223372036854775808 ≤ k ∧ k ≤ 9223372036854775807) :
    Calls Try.prog 3 #[.string m, .agg #[.int .i64 p, .int .i64 n], .int .i64 k] w fun e w' => e = .returned (.bool true) ∧ Keeps w w' := by
  have hm' := hm
  unfold maxLen at hm'
  by_cases hl : 2000 < (m.size : Int)
  · go_enter Try.func3, Try.ntmps3
    go_wp2_with (go_at_call 8; refine (live5_any _).mono ?_; rintro e w3 ⟨rfl, k3⟩)
    go_ret
    exact ⟨rfl, ((Keeps.refl _).alloc _).trans k3⟩
  have B0 := Box2.made w (.int .i64 p) (.int .i64 n) 22
  have K0 := (Keeps.refl w).alloc (.cells #[.int .i64 p, .int .i64 n] 22)
  have HC := hide (fun W => expand_any m p n k W hm hp.2)
  have HR := hide (fun W => refexp_any m p n k W (by omega) (fun ho => by simp only [Oct.takeOk, decide_eq_true_eq] at ho; omega) hp.2)
  generalize Dt.expL (bl m) p n k = E at *
  generalize erS E = X at *
  generalize E.e = Y at *
  go_enter Try.func3, Try.ntmps3
  go_wp2_with fail
  refine (HC.out _).mono ?_
  rintro e w1 ⟨rfl, k1⟩
  obtain ⟨c0, c1, c2⟩ := B0.keeps k1
  go_wp2_with fail
  refine (HR.out _).mono ?_
  rintro e w2 ⟨rfl, k2⟩
  go_wp2_with fail
  refine (live5_any _).mono ?_
  rintro e w3 ⟨rfl, k3⟩
  go_wp2
  go_ret
  exact ⟨rfl, ((K0.trans k1).trans k2).trans k3⟩
end Go.Proofs.Ytfhdibkacclkaaa
