/- FlagTwice answers true, for every input: the walk. The condition: the table of places reads as the program's text lays it. -/
import Derived.Test.YtcnpnlbmibnkdaaDoorFlagLaw
namespace Go.Proofs.YtcnpnlbmibnkdaaDoor
open Go.RowKit

theorem of_b64_FlagTwice (f b : Int) : -9223372036854775808 ≤ Fl.of f b ∧ Fl.of f b ≤ 9223372036854775807 := by have := of_bound f b; omega

/-- The two numbers of each array, where they were laid. -/
def Four (F G : Nat) (p q r s : Int) (w : World) : Prop := Two7 F p q w ∧ Two7 G r s w
theorem Four.keeps {F G : Nat} {p q r s : Int} {w w' : World} (h : Four F G p q r s w) (hk : Keeps w w') : Four F G p q r s w' := ⟨h.1.keeps hk, h.2.keeps hk⟩
theorem Four.made (w : World) (f g v u : Int) : Four w.heap.size (w.heap.size + 1) f g v u ((w.alloc (.cells #[.int .i64 f, .int .i64 g] 31)).alloc (.cells #[.int .i64 v, .int .i64 u] 31)) := by
  refine ⟨(Two7.made w f g).keeps ((Keeps.refl _).alloc _), ?_⟩
  have := Two7.made (w.alloc (.cells #[.int .i64 f, .int .i64 g] 31)) v u
  simpa using this

set_option maxHeartbeats 3200000 in
theorem FlagTwice_walk (f g b v u : Int) (w : World) (T : Tab w) (_ : (-9223372036854775808 ≤ f ∧ f ≤ 9223372036854775807)) (hg : (-9223372036854775808 ≤ g ∧ g ≤ 9223372036854775807)) (_ : (-9223372036854775808 ≤ b ∧ b ≤ 9223372036854775807)) (hv : (-9223372036854775808 ≤ v ∧ v ≤ 9223372036854775807)) (hu : (-9223372036854775808 ≤ u ∧ u ≤ 9223372036854775807)) :
    Calls Tryd.prog 7 #[.agg #[.int .i64 f, .int .i64 g], .int .i64 b, .agg #[.int .i64 v, .int .i64 u]] w fun e w' => e = .returned (.bool true) ∧ Keeps w w' := by
  have K := hide (Keeps.refl w)
  have T0 := hide T
  clear T
  have FH := hide (Four.made w f g v u)
  replace K := hide ((K.out.alloc (.cells #[.int .i64 f, .int .i64 g] 31)).alloc (.cells #[.int .i64 v, .int .i64 u] 31))
  cases hx : Fl.may f b v
  · go_enter Tryd.func7, Tryd.ntmps7
    go_wp2_with fail
    generalize (w.alloc (.cells #[.int .i64 f, .int .i64 g] 31)).alloc (.cells #[.int .i64 v, .int .i64 u] 31) = W at *
    generalize w.heap.size = G at *
    refine (with_any _ _ _ _ (T0.out.keeps K.out) (by omega)).mono ?_
    rintro e w5 ⟨rfl, k5⟩
    replace K := hide (K.out.trans k5)
    replace FH := hide (FH.out.keeps k5)
    clear k5
    obtain ⟨⟨c0, c1, c2⟩, ⟨d0, d1, d2⟩⟩ := FH.out
    go_wp2_with fail
    refine (with_any _ _ _ _ (T0.out.keeps K.out) (by omega)).mono ?_
    rintro e w5 ⟨rfl, k5⟩
    replace K := hide (K.out.trans k5)
    replace FH := hide (FH.out.keeps k5)
    clear k5
    clear c0 c1 c2 d0 d1 d2
    obtain ⟨⟨c0, c1, c2⟩, ⟨d0, d1, d2⟩⟩ := FH.out
    go_wp2_with (go_at_call 14; refine (live7_any _ (T0.out.keeps K.out)).mono ?_; rintro e w5 ⟨rfl, k5⟩; replace K := hide (K.out.trans k5); clear k5)
    go_ret
    exact ⟨rfl, K.out⟩
  · cases hy : Fl.may g b u
    · go_enter Tryd.func7, Tryd.ntmps7
      go_wp2_with fail
      generalize (w.alloc (.cells #[.int .i64 f, .int .i64 g] 31)).alloc (.cells #[.int .i64 v, .int .i64 u] 31) = W at *
      generalize w.heap.size = G at *
      refine (with_any _ _ _ _ (T0.out.keeps K.out) (by omega)).mono ?_
      rintro e w5 ⟨rfl, k5⟩
      replace K := hide (K.out.trans k5)
      replace FH := hide (FH.out.keeps k5)
      clear k5
      obtain ⟨⟨c0, c1, c2⟩, ⟨d0, d1, d2⟩⟩ := FH.out
      go_wp2_with fail
      refine (with_any _ _ _ _ (T0.out.keeps K.out) (by omega)).mono ?_
      rintro e w5 ⟨rfl, k5⟩
      replace K := hide (K.out.trans k5)
      replace FH := hide (FH.out.keeps k5)
      clear k5
      clear c0 c1 c2 d0 d1 d2
      obtain ⟨⟨c0, c1, c2⟩, ⟨d0, d1, d2⟩⟩ := FH.out
      go_wp2_with (go_at_call 14; refine (live7_any _ (T0.out.keeps K.out)).mono ?_; rintro e w5 ⟨rfl, k5⟩; replace K := hide (K.out.trans k5); clear k5)
      go_ret
      exact ⟨rfl, K.out⟩
    · have p1 := with_yes hx
      have p2 := with_yes hy
      have q1 := Fl.may_over hx hy
      have q2 := Fl.may_over hy hx
      have r1 := with_yes q1
      have r2 := with_yes q2
      by_cases hfg : f = g
      · subst hfg
        rw [Fl.lay_twice hx] at r1
        rw [Fl.lay_twice hy] at r2
        generalize Fl.lay f b v = A at *
        generalize Fl.lay f b u = B at *
        go_enter Tryd.func7, Tryd.ntmps7
        go_wp2_with fail
        generalize (w.alloc (.cells #[.int .i64 f, .int .i64 f] 31)).alloc (.cells #[.int .i64 v, .int .i64 u] 31) = W at *
        generalize w.heap.size = G at *
        refine (with_any _ _ _ _ (T0.out.keeps K.out) (by omega)).mono ?_
        rintro e w5 ⟨rfl, k5⟩
        replace K := hide (K.out.trans k5)
        replace FH := hide (FH.out.keeps k5)
        clear k5
        obtain ⟨⟨c0, c1, c2⟩, ⟨d0, d1, d2⟩⟩ := FH.out
        go_wp2_with fail
        refine (with_any _ _ _ _ (T0.out.keeps K.out) (by omega)).mono ?_
        rintro e w5 ⟨rfl, k5⟩
        replace K := hide (K.out.trans k5)
        replace FH := hide (FH.out.keeps k5)
        clear k5
        clear c0 c1 c2 d0 d1 d2
        obtain ⟨⟨c0, c1, c2⟩, ⟨d0, d1, d2⟩⟩ := FH.out
        go_wp2_with fail
        refine (with_any _ _ _ _ (T0.out.keeps K.out) (by omega)).mono ?_
        rintro e w5 ⟨rfl, k5⟩
        replace K := hide (K.out.trans k5)
        replace FH := hide (FH.out.keeps k5)
        clear k5
        clear c0 c1 c2 d0 d1 d2
        obtain ⟨⟨c0, c1, c2⟩, ⟨d0, d1, d2⟩⟩ := FH.out
        go_wp2_with fail
        refine (with_any _ _ _ _ (T0.out.keeps K.out) (by omega)).mono ?_
        rintro e w5 ⟨rfl, k5⟩
        replace K := hide (K.out.trans k5)
        replace FH := hide (FH.out.keeps k5)
        clear k5
        clear c0 c1 c2 d0 d1 d2
        obtain ⟨⟨c0, c1, c2⟩, ⟨d0, d1, d2⟩⟩ := FH.out
        go_wp2_with (go_at_call 14; refine (live7_any _ (T0.out.keeps K.out)).mono ?_; rintro e w5 ⟨rfl, k5⟩; replace K := hide (K.out.trans k5); clear k5)
        go_ret
        exact ⟨rfl, K.out⟩
      · have hfg2 : (f == g) = false := beq_eq_false_iff_ne.2 hfg
        rw [Fl.lay_order hx hy hfg] at r1
        generalize Fl.lay f (Fl.lay g b u) v = D at *
        generalize Fl.lay f b v = A at *
        generalize Fl.lay g b u = B at *
        clear hfg
        go_enter Tryd.func7, Tryd.ntmps7
        go_wp2_with fail
        generalize (w.alloc (.cells #[.int .i64 f, .int .i64 g] 31)).alloc (.cells #[.int .i64 v, .int .i64 u] 31) = W at *
        generalize w.heap.size = G at *
        refine (with_any _ _ _ _ (T0.out.keeps K.out) (by omega)).mono ?_
        rintro e w5 ⟨rfl, k5⟩
        replace K := hide (K.out.trans k5)
        replace FH := hide (FH.out.keeps k5)
        clear k5
        obtain ⟨⟨c0, c1, c2⟩, ⟨d0, d1, d2⟩⟩ := FH.out
        go_wp2_with fail
        refine (with_any _ _ _ _ (T0.out.keeps K.out) (by omega)).mono ?_
        rintro e w5 ⟨rfl, k5⟩
        replace K := hide (K.out.trans k5)
        replace FH := hide (FH.out.keeps k5)
        clear k5
        clear c0 c1 c2 d0 d1 d2
        obtain ⟨⟨c0, c1, c2⟩, ⟨d0, d1, d2⟩⟩ := FH.out
        go_wp2_with fail
        refine (with_any _ _ _ _ (T0.out.keeps K.out) (by omega)).mono ?_
        rintro e w5 ⟨rfl, k5⟩
        replace K := hide (K.out.trans k5)
        replace FH := hide (FH.out.keeps k5)
        clear k5
        clear c0 c1 c2 d0 d1 d2
        obtain ⟨⟨c0, c1, c2⟩, ⟨d0, d1, d2⟩⟩ := FH.out
        go_wp2_with fail
        refine (with_any _ _ _ _ (T0.out.keeps K.out) (by omega)).mono ?_
        rintro e w5 ⟨rfl, k5⟩
        replace K := hide (K.out.trans k5)
        replace FH := hide (FH.out.keeps k5)
        clear k5
        clear c0 c1 c2 d0 d1 d2
        obtain ⟨⟨c0, c1, c2⟩, ⟨d0, d1, d2⟩⟩ := FH.out
        go_wp2_with (go_at_call 14; refine (live7_any _ (T0.out.keeps K.out)).mono ?_; rintro e w5 ⟨rfl, k5⟩; replace K := hide (K.out.trans k5); clear k5)
        go_ret
        exact ⟨rfl, K.out⟩
end Go.Proofs.YtcnpnlbmibnkdaaDoor
