/- OctetTells answers true, for every input: the walk. -/
import Derived.Test.YtllejfkjomcgbaaOctLive
import Derived.Test.YtllejfkjomcgbaaOctWalk4
import Derived.Test.YtllejfkjomcgbaaOctMath2
import Derived.Deep.RegionHeld3
namespace Go.Proofs.Ytllejfkjomcgbaa
open Go.RowKit

/-- The two numbers of the array, where it was laid. -/
def Two (B : Nat) (p k : Int) (w : World) : Prop := w.cell? ⟨B, 0, none⟩ = some (.int .i64 p) ∧ w.cell? ⟨B, 1, none⟩ = some (.int .i64 k) ∧ B < w.heap.size
theorem Two.keeps {B : Nat} {p k : Int} {w w' : World} (h : Two B p k w) (hk : Keeps w w') : Two B p k w' :=
  ⟨(hk.cell (p := ⟨B, 0, none⟩) h.2.2).trans h.1, (hk.cell (p := ⟨B, 1, none⟩) h.2.2).trans h.2.1, Nat.lt_of_lt_of_le h.2.2 hk.size⟩
theorem Two.made (w : World) (p k : Int) : Two w.heap.size p k (w.alloc (.cells #[.int .i64 p, .int .i64 k] 22)) := by
  refine ⟨?_, ?_, by simp⟩
  · exact (World.cell?_alloc_mark w _ _ (0, 0) 0).trans rfl
  · exact (World.cell?_alloc_mark w _ _ (0, 0) 1).trans rfl

set_option maxHeartbeats 1600000 in
theorem OctetTells_walk (s : ByteArray) (p k : Int) (t : ByteArray) (w : World) (hs : s.size ≤ maxLen) (hp0 : -9223372036854775808 ≤ p ∧ p ≤ 9223372036854775807) (_ : -9223372036854775808 ≤ k ∧ k ≤ 9223372036854775807) (ht : t.size ≤ maxLen) :
    Calls Try.prog 3 #[.string s, .agg #[.int .i64 p, .int .i64 k], .string t] w fun e w' => e = .returned (.bool true) ∧ Keeps w w' := by
  have hp := hp0.2
  clear hp0
  have hs' := hs
  unfold maxLen at hs'
  have ht' := ht
  unfold maxLen at ht'
  have k0 : Keeps w (w.alloc (.cells #[.int .i64 p, .int .i64 k] 22)) := (Keeps.refl _).alloc _
  by_cases hl : 70000 < (s.size : Int)
  · go_enter Try.func3, Try.ntmps3
    go_wp2_with (go_at_call 9; refine (live_any _).mono ?_; rintro e w3 ⟨rfl, k3⟩)
    go_ret
    exact ⟨rfl, k0.trans (by assumption)⟩
  by_cases hl2 : 70000 < (t.size : Int)
  · go_enter Try.func3, Try.ntmps3
    go_wp2_with (go_at_call 9; refine (live_any _).mono ?_; rintro e w3 ⟨rfl, k3⟩)
    go_ret
    exact ⟨rfl, k0.trans (by assumption)⟩
  have T0 := Two.made w p k
  have K0 := hide k0
  clear k0
  generalize hB : w.heap.size = B at T0
  go_enter Try.func3, Try.ntmps3
  go_wp2_with fail
  generalize w.alloc (.cells #[.int .i64 p, .int .i64 k] 22) = W at *
  clear hB
  refine (take_any _ _ _ _ hs hp).mono ?_
  rintro e w2 ⟨rfl, hw2⟩
  subst hw2
  obtain ⟨c0, c1, hlt⟩ := T0
  go_wp2_with fail
  refine (reftake_any _ _ _ _ hs hp).mono ?_
  rintro e w2 ⟨rfl, hw2⟩
  subst hw2
  go_wp2_with fail
  refine (get_any _ _ _ _ hs hp).mono ?_
  rintro e w2 ⟨rfl, hw2⟩
  subst hw2
  go_wp2_with fail
  refine (refget_any _ _ _ _ hs hp).mono ?_
  rintro e w2 ⟨rfl, hw2⟩
  subst hw2
  go_wp2_with fail
  refine (lay_any _ _ _ _ hs ht hp).mono ?_
  rintro e w3 ⟨rfl, k3⟩
  obtain ⟨d0, d1, hlt3⟩ := Two.keeps ⟨c0, c1, hlt⟩ k3
  go_wp2_with fail
  refine (reflay_any _ _ _ _ hs ht hp).mono ?_
  rintro e w4 ⟨rfl, k4⟩
  obtain ⟨e0, e1, hlt4⟩ := Two.keeps ⟨d0, d1, hlt3⟩ k4
  have KK := hide ((K0.out.trans k3).trans k4)
  clear c0 c1 hlt d0 d1 hlt3 k3 k4 K0
  generalize Oct.takeS s p k = A1 at *
  generalize Oct.takeOk s p k = A2 at *
  generalize Oct.getN s p k = A3 at *
  generalize Oct.getOk s p k = A4 at *
  generalize Oct.layS s p t = A5 at *
  generalize Oct.layOk s p t = A6 at *
  go_wp2_with fail
  go_region_held3 (fun w' => w'.cell? ⟨B, 0, none⟩ = some (.int .i64 p) ∧ w'.cell? ⟨B, 1, none⟩ = some (.int .i64 k) ∧ B < w'.heap.size) ((first | exact ⟨e0, e1, hlt4⟩ | exact Two.keeps (by assumption) (by assumption))) ((first | (go_at_call 16; refine (put_any _ _ _).mono ?_; rintro e w5 ⟨rfl, k5⟩) | (go_at_call 17; refine (refput_any _ _ _ hp).mono ?_; rintro e w5 ⟨rfl, k5⟩) | (go_at_call 9; refine (live_any _).mono ?_; rintro e w5 ⟨rfl, k5⟩)))
  go_wp2
  go_ret
  refine ⟨rfl, ?_⟩
  refine Keeps.trans ?_ (by assumption)
  refine Keeps.trans ?_ (by assumption)
  refine Keeps.trans ?_ (by assumption)
  exact KK.out.drew
end Go.Proofs.Ytllejfkjomcgbaa
