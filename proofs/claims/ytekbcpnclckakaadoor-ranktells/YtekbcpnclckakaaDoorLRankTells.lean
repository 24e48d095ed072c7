/- RankTells answers true, for every input: the walk. The condition: the table of ranks reads as the program's text lays it. -/
import Derived.Test.YtekbcpnclckakaaDoorRankLive
import Derived.Deep.RegionHeld3
namespace Go.Proofs.YtekbcpnclckakaaDoor
open Go.RowKit

def Two11 (B : Nat) (p k : Int) (w : World) : Prop := w.cell? ⟨B, 0, none⟩ = some (.int .i64 p) ∧ w.cell? ⟨B, 1, none⟩ = some (.int .i64 k) ∧ B < w.heap.size
theorem Two11.keeps {B : Nat} {p k : Int} {w w' : World} (h : Two11 B p k w) (hk : Keeps w w') : Two11 B p k w' :=
  ⟨(Below.cell hk h.2.2).trans h.1, (Below.cell hk h.2.2).trans h.2.1, Nat.lt_of_lt_of_le h.2.2 (Below.size hk)⟩
theorem Two11.made (w : World) (p k : Int) : Two11 w.heap.size p k (w.alloc (.cells #[.int .i64 p, .int .i64 k] 22)) := by
  refine ⟨?_, ?_, by simp⟩
  · exact World.cell?_alloc_mark w _ _ (0, 0) 0
  · exact World.cell?_alloc_mark w _ _ (0, 0) 1

set_option maxHeartbeats 3200000 in
theorem RankTells_walk (s : Int) (aa : Bool) (r k : Int) (w : World) (T0 : TabR w) (_ : -9223372036854775808 ≤ s ∧ s ≤ 9223372036854775807) (_ : -9223372036854775808 ≤ r ∧ r ≤ 9223372036854775807) (_ : -9223372036854775808 ≤ k ∧ k ≤ 9223372036854775807) :
    Calls Tryd.prog 3 #[.int .i64 s, .bool aa, .agg #[.int .i64 r, .int .i64 k]] w fun e w' => e = .returned (.bool true) ∧ Keeps w w' := by
  have FH0 := hide (Two11.made w r k)
  have K0 := hide ((Keeps.refl w).alloc (.cells #[.int .i64 r, .int .i64 k] 22))
  have T1 := hide (T0.keeps K0.out)
  clear T0
  generalize hA : Rk.rank s aa = A
  generalize hO : Rk.over r aa k = O
  generalize hD : Rk.told r = D
  go_enter Tryd.func3, Tryd.ntmps3
  go_wp2_with fail
  generalize w.alloc (.cells #[.int .i64 r, .int .i64 k] 22) = W0 at *
  generalize w.heap.size = G at *
  have T : TabR W0.drew := T1.out
  have K : Keeps w W0.drew := K0.out.drew
  have FH : Two11 G r k W0.drew := FH0.out
  clear T1 K0 FH0
  go_region_held3 (fun w' => w'.cell? ⟨G, 0, none⟩ = some (.int .i64 r) ∧ w'.cell? ⟨G, 1, none⟩ = some (.int .i64 k) ∧ G < w'.heap.size) (exact FH) ((first | (go_at_call 6; refine (rank_any _ _ _ T).mono ?_; rintro e w5 ⟨rfl, k5⟩; replace FH := Two11.keeps FH k5; replace T := TabR.keeps T k5; replace K := Keeps.trans K k5; clear k5; rw [hA]) | (go_at_call 7; refine (refRank_any _ _ _).mono ?_; rintro e w5 ⟨rfl, hw⟩; subst hw; rw [hA]) | (go_at_call 8; refine (over_any _ _ _ _).mono ?_; rintro e w5 ⟨rfl, hw⟩; subst hw; rw [hO]) | (go_at_call 9; refine (refOver_any _ _ _ _).mono ?_; rintro e w5 ⟨rfl, hw⟩; subst hw; rw [hO]) | (go_at_call 10; refine (told_any _ _).mono ?_; rintro e w5 ⟨rfl, hw⟩; subst hw; rw [hD]) | (go_at_call 11; refine (refTold_any _ _).mono ?_; rintro e w5 ⟨rfl, hw⟩; subst hw; rw [hD]) | (go_at_call 12; refine (live11_any _ T).mono ?_; rintro e w5 ⟨rfl, k5⟩; replace FH := Two11.keeps FH k5; replace T := TabR.keeps T k5; replace K := Keeps.trans K k5; clear k5)))
  go_wp2
  go_ret
  exact ⟨rfl, K⟩
end Go.Proofs.YtekbcpnclckakaaDoor
