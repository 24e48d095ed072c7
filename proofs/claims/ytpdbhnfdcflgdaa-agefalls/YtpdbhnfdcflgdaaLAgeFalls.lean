/- AgeFalls answers true, for every input: the walk. -/
import Derived.Test.YtpdbhnfdcflgdaaAgeLive
namespace Go.Proofs.Ytpdbhnfdcflgdaa
open Go.RowKit

theorem Ag.till_b (now ttl : Int) : -9223372036854775808 ≤ Ag.till now ttl ∧ Ag.till now ttl ≤ 9223372036854775807 := by
  unfold Ag.till
  split
  · rename_i h
    simp only [Ag.isT, Bool.and_eq_true, decide_eq_true_eq] at h
    omega
  · omega
theorem Ag.fresh {now ttl : Int} (h : 0 ≤ now ∧ now ≤ 1099511627776) (h2 : 0 ≤ ttl) : Ag.left now (Ag.till now ttl) = min ttl 604800 ∧ Ag.live now (Ag.till now ttl) = decide (0 < ttl) := by
  have e : Ag.till now ttl = now + min ttl 604800 := by simp only [Ag.till, Ag.isT, decide_eq_true h, decide_eq_true h2, Bool.and_self, if_true]
  have l : Ag.live now (Ag.till now ttl) = decide (0 < ttl) := by
    rw [e]
    simp only [Ag.live, Ag.isT, decide_eq_true h, Bool.true_and]
    exact decide_eq_decide.2 (by omega)
  refine ⟨?_, l⟩
  unfold Ag.left
  rw [l, e]
  by_cases h3 : 0 < ttl
  · rw [decide_eq_true h3, if_pos rfl]
    omega
  · rw [decide_eq_false h3]
    simp only [Bool.false_eq_true, if_false]
    omega
theorem Ag.step {now u : Int} (h : 0 ≤ now ∧ now < 1099511627776) :
    (Ag.live now u = false ∧ Ag.left now u = 0 ∧ Ag.left (now + 1) u = 0) ∨ (Ag.live now u = true ∧ (1 ≤ Ag.left now u ∧ Ag.left now u ≤ 604800) ∧ Ag.left (now + 1) u = Ag.left now u - 1) ∨ (Ag.live now u = true ∧ Ag.left now u = 604800 ∧ Ag.left (now + 1) u = 604800) := by
  have h1 : Ag.live now u = decide (now < u) := by simp only [Ag.live, Ag.isT, decide_eq_true (show 0 ≤ now ∧ now ≤ 1099511627776 by omega), Bool.true_and]
  have h2 : Ag.live (now + 1) u = decide (now + 1 < u) := by simp only [Ag.live, Ag.isT, decide_eq_true (show 0 ≤ now + 1 ∧ now + 1 ≤ 1099511627776 by omega), Bool.true_and]
  by_cases c1 : now < u
  · have e1 : Ag.left now u = min (u - now) 604800 := by simp only [Ag.left, h1, decide_eq_true c1, if_true]
    have e2 : Ag.left (now + 1) u = min (u - (now + 1)) 604800 := by
      unfold Ag.left
      rw [h2]
      by_cases c2 : now + 1 < u
      · rw [decide_eq_true c2, if_pos rfl]
      · rw [decide_eq_false c2]
        simp only [Bool.false_eq_true, if_false]
        omega
    rw [h1, decide_eq_true c1, e1, e2]
    by_cases c3 : 604800 < u - now
    · exact .inr (.inr ⟨rfl, by omega, by omega⟩)
    · exact .inr (.inl ⟨rfl, by omega, by omega⟩)
  · refine .inl ⟨by rw [h1, decide_eq_false c1], ?_, ?_⟩
    · simp only [Ag.left, h1, decide_eq_false c1, Bool.false_eq_true, if_false]
    · simp only [Ag.left, h2, decide_eq_false (show ¬ now + 1 < u by omega), Bool.false_eq_true, if_false]

set_option maxHeartbeats 3200000 in
theorem AgeFalls_walk (now ttl u : Int) (w : World) (hn : -9223372036854775808 ≤ now ∧ now ≤ 9223372036854775807) (ht : -9223372036854775808 ≤ ttl ∧ ttl ≤ 9223372036854775807) (hu : -9223372036854775808 ≤ u ∧ u ≤ 9223372036854775807) :
    Calls Try.prog 4 #[.int .i64 now, .int .i64 ttl, .int .i64 u] w fun e w' => e = .returned (.bool true) ∧ Keeps w w' := by
  have tb := Ag.till_b now ttl
  by_cases n0 : 0 ≤ now
  · by_cases n1 : now ≤ 1099511627776
    · by_cases n2 : now < 1099511627776
      · have wr : IntKind.i64.wrap (now + 1) = now + 1 := by rw [IntKind.wrap_i64]; omega
        by_cases t0 : 0 ≤ ttl
        · have F := Ag.fresh (now := now) ⟨n0, n1⟩ t0
          by_cases t1 : 604800 < ttl
          · rw [show min ttl 604800 = 604800 by omega, decide_eq_true (show 0 < ttl by omega)] at F
            obtain ⟨hl, hv⟩ := F
            rcases Ag.step (now := now) (u := u) ⟨n0, n2⟩ with ⟨el, ea, eb⟩ | ⟨el, ⟨ec, ed⟩, eb⟩ | ⟨el, ea, eb⟩
            · go_enter Try.func4, Try.ntmps4
              go_wp2_with fail
              refine (until_any _ _ _ ht).mono ?_
              rintro e w1 ⟨rfl, rfl⟩
              generalize Ag.till now ttl = T at *
              go_wp2_with fail
              refine (left_any _ _ _ tb).mono ?_
              rintro e w1 ⟨rfl, rfl⟩
              rw [hl]
              go_wp2_with fail
              refine (ageLive_any _ _ _).mono ?_
              rintro e w1 ⟨rfl, rfl⟩
              rw [hv]
              go_wp2_with fail
              refine (left_any _ _ _ hu).mono ?_
              rintro e w1 ⟨rfl, rfl⟩
              rw [ea]
              go_wp2_with fail
              refine (left_any _ _ _ hu).mono ?_
              rintro e w1 ⟨rfl, rfl⟩
              try rw [wr]
              rw [eb]
              go_wp2_with fail
              refine (ageLive_any _ _ _).mono ?_
              rintro e w1 ⟨rfl, rfl⟩
              rw [el]
              go_wp2_with fail
              refine (live12_any _).mono ?_
              rintro e w1 ⟨rfl, rfl⟩
              go_wp2
              go_ret
              exact ⟨rfl, Keeps.refl _⟩
            · generalize ea : Ag.left now u = A at *
              have wr2 : IntKind.i64.wrap (A - 1) = A - 1 := by rw [IntKind.wrap_i64]; omega
              have hz : (A == 0) = false := beq_eq_false_iff_ne.2 (by omega)
              go_enter Try.func4, Try.ntmps4
              go_wp2_with fail
              refine (until_any _ _ _ ht).mono ?_
              rintro e w1 ⟨rfl, rfl⟩
              generalize Ag.till now ttl = T at *
              go_wp2_with fail
              refine (left_any _ _ _ tb).mono ?_
              rintro e w1 ⟨rfl, rfl⟩
              rw [hl]
              go_wp2_with fail
              refine (ageLive_any _ _ _).mono ?_
              rintro e w1 ⟨rfl, rfl⟩
              rw [hv]
              go_wp2_with fail
              refine (left_any _ _ _ hu).mono ?_
              rintro e w1 ⟨rfl, rfl⟩
              rw [ea]
              go_wp2_with fail
              refine (left_any _ _ _ hu).mono ?_
              rintro e w1 ⟨rfl, rfl⟩
              try rw [wr]
              rw [eb]
              go_wp2_with fail
              refine (ageLive_any _ _ _).mono ?_
              rintro e w1 ⟨rfl, rfl⟩
              rw [el]
              go_wp2_with fail
              refine (live12_any _).mono ?_
              rintro e w1 ⟨rfl, rfl⟩
              go_wp2
              go_ret
              exact ⟨rfl, Keeps.refl _⟩
            · go_enter Try.func4, Try.ntmps4
              go_wp2_with fail
              refine (until_any _ _ _ ht).mono ?_
              rintro e w1 ⟨rfl, rfl⟩
              generalize Ag.till now ttl = T at *
              go_wp2_with fail
              refine (left_any _ _ _ tb).mono ?_
              rintro e w1 ⟨rfl, rfl⟩
              rw [hl]
              go_wp2_with fail
              refine (ageLive_any _ _ _).mono ?_
              rintro e w1 ⟨rfl, rfl⟩
              rw [hv]
              go_wp2_with fail
              refine (left_any _ _ _ hu).mono ?_
              rintro e w1 ⟨rfl, rfl⟩
              rw [ea]
              go_wp2_with fail
              refine (left_any _ _ _ hu).mono ?_
              rintro e w1 ⟨rfl, rfl⟩
              try rw [wr]
              rw [eb]
              go_wp2_with fail
              refine (ageLive_any _ _ _).mono ?_
              rintro e w1 ⟨rfl, rfl⟩
              rw [el]
              go_wp2_with fail
              refine (live12_any _).mono ?_
              rintro e w1 ⟨rfl, rfl⟩
              go_wp2
              go_ret
              exact ⟨rfl, Keeps.refl _⟩
          · rw [show min ttl 604800 = ttl by omega] at F
            by_cases t2 : 0 < ttl
            · rw [decide_eq_true t2] at F
              obtain ⟨hl, hv⟩ := F
              rcases Ag.step (now := now) (u := u) ⟨n0, n2⟩ with ⟨el, ea, eb⟩ | ⟨el, ⟨ec, ed⟩, eb⟩ | ⟨el, ea, eb⟩
              · go_enter Try.func4, Try.ntmps4
                go_wp2_with fail
                refine (until_any _ _ _ ht).mono ?_
                rintro e w1 ⟨rfl, rfl⟩
                generalize Ag.till now ttl = T at *
                go_wp2_with fail
                refine (left_any _ _ _ tb).mono ?_
                rintro e w1 ⟨rfl, rfl⟩
                rw [hl]
                go_wp2_with fail
                refine (ageLive_any _ _ _).mono ?_
                rintro e w1 ⟨rfl, rfl⟩
                rw [hv]
                go_wp2_with fail
                refine (left_any _ _ _ hu).mono ?_
                rintro e w1 ⟨rfl, rfl⟩
                rw [ea]
                go_wp2_with fail
                refine (left_any _ _ _ hu).mono ?_
                rintro e w1 ⟨rfl, rfl⟩
                try rw [wr]
                rw [eb]
                go_wp2_with fail
                refine (ageLive_any _ _ _).mono ?_
                rintro e w1 ⟨rfl, rfl⟩
                rw [el]
                go_wp2_with fail
                refine (live12_any _).mono ?_
                rintro e w1 ⟨rfl, rfl⟩
                go_wp2
                go_ret
                exact ⟨rfl, Keeps.refl _⟩
              · generalize ea : Ag.left now u = A at *
                have wr2 : IntKind.i64.wrap (A - 1) = A - 1 := by rw [IntKind.wrap_i64]; omega
                have hz : (A == 0) = false := beq_eq_false_iff_ne.2 (by omega)
                go_enter Try.func4, Try.ntmps4
                go_wp2_with fail
                refine (until_any _ _ _ ht).mono ?_
                rintro e w1 ⟨rfl, rfl⟩
                generalize Ag.till now ttl = T at *
                go_wp2_with fail
                refine (left_any _ _ _ tb).mono ?_
                rintro e w1 ⟨rfl, rfl⟩
                rw [hl]
                go_wp2_with fail
                refine (ageLive_any _ _ _).mono ?_
                rintro e w1 ⟨rfl, rfl⟩
                rw [hv]
                go_wp2_with fail
                refine (left_any _ _ _ hu).mono ?_
                rintro e w1 ⟨rfl, rfl⟩
                rw [ea]
                go_wp2_with fail
                refine (left_any _ _ _ hu).mono ?_
                rintro e w1 ⟨rfl, rfl⟩
                try rw [wr]
                rw [eb]
                go_wp2_with fail
                refine (ageLive_any _ _ _).mono ?_
                rintro e w1 ⟨rfl, rfl⟩
                rw [el]
                go_wp2_with fail
                refine (live12_any _).mono ?_
                rintro e w1 ⟨rfl, rfl⟩
                go_wp2
                go_ret
                exact ⟨rfl, Keeps.refl _⟩
              · go_enter Try.func4, Try.ntmps4
                go_wp2_with fail
                refine (until_any _ _ _ ht).mono ?_
                rintro e w1 ⟨rfl, rfl⟩
                generalize Ag.till now ttl = T at *
                go_wp2_with fail
                refine (left_any _ _ _ tb).mono ?_
                rintro e w1 ⟨rfl, rfl⟩
                rw [hl]
                go_wp2_with fail
                refine (ageLive_any _ _ _).mono ?_
                rintro e w1 ⟨rfl, rfl⟩
                rw [hv]
                go_wp2_with fail
                refine (left_any _ _ _ hu).mono ?_
                rintro e w1 ⟨rfl, rfl⟩
                rw [ea]
                go_wp2_with fail
                refine (left_any _ _ _ hu).mono ?_
                rintro e w1 ⟨rfl, rfl⟩
                try rw [wr]
                rw [eb]
                go_wp2_with fail
                refine (ageLive_any _ _ _).mono ?_
                rintro e w1 ⟨rfl, rfl⟩
                rw [el]
                go_wp2_with fail
                refine (live12_any _).mono ?_
                rintro e w1 ⟨rfl, rfl⟩
                go_wp2
                go_ret
                exact ⟨rfl, Keeps.refl _⟩
            · obtain rfl : ttl = 0 := by omega
              obtain ⟨hl, hv⟩ := F
              rw [show decide ((0 : Int) < 0) = false from rfl] at hv
              rcases Ag.step (now := now) (u := u) ⟨n0, n2⟩ with ⟨el, ea, eb⟩ | ⟨el, ⟨ec, ed⟩, eb⟩ | ⟨el, ea, eb⟩
              · go_enter Try.func4, Try.ntmps4
                go_wp2_with fail
                refine (until_any _ _ _ ht).mono ?_
                rintro e w1 ⟨rfl, rfl⟩
                generalize Ag.till now 0 = T at *
                go_wp2_with fail
                refine (left_any _ _ _ tb).mono ?_
                rintro e w1 ⟨rfl, rfl⟩
                rw [hl]
                go_wp2_with fail
                refine (ageLive_any _ _ _).mono ?_
                rintro e w1 ⟨rfl, rfl⟩
                rw [hv]
                go_wp2_with fail
                refine (left_any _ _ _ hu).mono ?_
                rintro e w1 ⟨rfl, rfl⟩
                rw [ea]
                go_wp2_with fail
                refine (left_any _ _ _ hu).mono ?_
                rintro e w1 ⟨rfl, rfl⟩
                try rw [wr]
                rw [eb]
                go_wp2_with fail
                refine (ageLive_any _ _ _).mono ?_
                rintro e w1 ⟨rfl, rfl⟩
                rw [el]
                go_wp2_with fail
                refine (live12_any _).mono ?_
                rintro e w1 ⟨rfl, rfl⟩
                go_wp2
                go_ret
                exact ⟨rfl, Keeps.refl _⟩
              · generalize ea : Ag.left now u = A at *
                have wr2 : IntKind.i64.wrap (A - 1) = A - 1 := by rw [IntKind.wrap_i64]; omega
                have hz : (A == 0) = false := beq_eq_false_iff_ne.2 (by omega)
                go_enter Try.func4, Try.ntmps4
                go_wp2_with fail
                refine (until_any _ _ _ ht).mono ?_
                rintro e w1 ⟨rfl, rfl⟩
                generalize Ag.till now 0 = T at *
                go_wp2_with fail
                refine (left_any _ _ _ tb).mono ?_
                rintro e w1 ⟨rfl, rfl⟩
                rw [hl]
                go_wp2_with fail
                refine (ageLive_any _ _ _).mono ?_
                rintro e w1 ⟨rfl, rfl⟩
                rw [hv]
                go_wp2_with fail
                refine (left_any _ _ _ hu).mono ?_
                rintro e w1 ⟨rfl, rfl⟩
                rw [ea]
                go_wp2_with fail
                refine (left_any _ _ _ hu).mono ?_
                rintro e w1 ⟨rfl, rfl⟩
                try rw [wr]
                rw [eb]
                go_wp2_with fail
                refine (ageLive_any _ _ _).mono ?_
                rintro e w1 ⟨rfl, rfl⟩
                rw [el]
                go_wp2_with fail
                refine (live12_any _).mono ?_
                rintro e w1 ⟨rfl, rfl⟩
                go_wp2
                go_ret
                exact ⟨rfl, Keeps.refl _⟩
              · go_enter Try.func4, Try.ntmps4
                go_wp2_with fail
                refine (until_any _ _ _ ht).mono ?_
                rintro e w1 ⟨rfl, rfl⟩
                generalize Ag.till now 0 = T at *
                go_wp2_with fail
                refine (left_any _ _ _ tb).mono ?_
                rintro e w1 ⟨rfl, rfl⟩
                rw [hl]
                go_wp2_with fail
                refine (ageLive_any _ _ _).mono ?_
                rintro e w1 ⟨rfl, rfl⟩
                rw [hv]
                go_wp2_with fail
                refine (left_any _ _ _ hu).mono ?_
                rintro e w1 ⟨rfl, rfl⟩
                rw [ea]
                go_wp2_with fail
                refine (left_any _ _ _ hu).mono ?_
                rintro e w1 ⟨rfl, rfl⟩
                try rw [wr]
                rw [eb]
                go_wp2_with fail
                refine (ageLive_any _ _ _).mono ?_
                rintro e w1 ⟨rfl, rfl⟩
                rw [el]
                go_wp2_with fail
                refine (live12_any _).mono ?_
                rintro e w1 ⟨rfl, rfl⟩
                go_wp2
                go_ret
                exact ⟨rfl, Keeps.refl _⟩
        · skip
          rcases Ag.step (now := now) (u := u) ⟨n0, n2⟩ with ⟨el, ea, eb⟩ | ⟨el, ⟨ec, ed⟩, eb⟩ | ⟨el, ea, eb⟩
          · go_enter Try.func4, Try.ntmps4
            go_wp2_with fail
            refine (until_any _ _ _ ht).mono ?_
            rintro e w1 ⟨rfl, rfl⟩
            go_wp2_with fail
            refine (left_any _ _ _ hu).mono ?_
            rintro e w1 ⟨rfl, rfl⟩
            rw [ea]
            go_wp2_with fail
            refine (left_any _ _ _ hu).mono ?_
            rintro e w1 ⟨rfl, rfl⟩
            try rw [wr]
            rw [eb]
            go_wp2_with fail
            refine (ageLive_any _ _ _).mono ?_
            rintro e w1 ⟨rfl, rfl⟩
            rw [el]
            go_wp2_with fail
            refine (live12_any _).mono ?_
            rintro e w1 ⟨rfl, rfl⟩
            go_wp2
            go_ret
            exact ⟨rfl, Keeps.refl _⟩
          · generalize ea : Ag.left now u = A at *
            have wr2 : IntKind.i64.wrap (A - 1) = A - 1 := by rw [IntKind.wrap_i64]; omega
            have hz : (A == 0) = false := beq_eq_false_iff_ne.2 (by omega)
            go_enter Try.func4, Try.ntmps4
            go_wp2_with fail
            refine (until_any _ _ _ ht).mono ?_
            rintro e w1 ⟨rfl, rfl⟩
            go_wp2_with fail
            refine (left_any _ _ _ hu).mono ?_
            rintro e w1 ⟨rfl, rfl⟩
            rw [ea]
            go_wp2_with fail
            refine (left_any _ _ _ hu).mono ?_
            rintro e w1 ⟨rfl, rfl⟩
            try rw [wr]
            rw [eb]
            go_wp2_with fail
            refine (ageLive_any _ _ _).mono ?_
            rintro e w1 ⟨rfl, rfl⟩
            rw [el]
            go_wp2_with fail
            refine (live12_any _).mono ?_
            rintro e w1 ⟨rfl, rfl⟩
            go_wp2
            go_ret
            exact ⟨rfl, Keeps.refl _⟩
          · go_enter Try.func4, Try.ntmps4
            go_wp2_with fail
            refine (until_any _ _ _ ht).mono ?_
            rintro e w1 ⟨rfl, rfl⟩
            go_wp2_with fail
            refine (left_any _ _ _ hu).mono ?_
            rintro e w1 ⟨rfl, rfl⟩
            rw [ea]
            go_wp2_with fail
            refine (left_any _ _ _ hu).mono ?_
            rintro e w1 ⟨rfl, rfl⟩
            try rw [wr]
            rw [eb]
            go_wp2_with fail
            refine (ageLive_any _ _ _).mono ?_
            rintro e w1 ⟨rfl, rfl⟩
            rw [el]
            go_wp2_with fail
            refine (live12_any _).mono ?_
            rintro e w1 ⟨rfl, rfl⟩
            go_wp2
            go_ret
            exact ⟨rfl, Keeps.refl _⟩
      · skip
        by_cases t0 : 0 ≤ ttl
        · have F := Ag.fresh (now := now) ⟨n0, n1⟩ t0
          by_cases t1 : 604800 < ttl
          · rw [show min ttl 604800 = 604800 by omega, decide_eq_true (show 0 < ttl by omega)] at F
            obtain ⟨hl, hv⟩ := F
            go_enter Try.func4, Try.ntmps4
            go_wp2_with fail
            refine (until_any _ _ _ ht).mono ?_
            rintro e w1 ⟨rfl, rfl⟩
            generalize Ag.till now ttl = T at *
            go_wp2_with fail
            refine (left_any _ _ _ tb).mono ?_
            rintro e w1 ⟨rfl, rfl⟩
            rw [hl]
            go_wp2_with fail
            refine (ageLive_any _ _ _).mono ?_
            rintro e w1 ⟨rfl, rfl⟩
            rw [hv]
            go_wp2_with fail
            refine (live12_any _).mono ?_
            rintro e w1 ⟨rfl, rfl⟩
            go_wp2
            go_ret
            exact ⟨rfl, Keeps.refl _⟩
          · rw [show min ttl 604800 = ttl by omega] at F
            by_cases t2 : 0 < ttl
            · rw [decide_eq_true t2] at F
              obtain ⟨hl, hv⟩ := F
              go_enter Try.func4, Try.ntmps4
              go_wp2_with fail
              refine (until_any _ _ _ ht).mono ?_
              rintro e w1 ⟨rfl, rfl⟩
              generalize Ag.till now ttl = T at *
              go_wp2_with fail
              refine (left_any _ _ _ tb).mono ?_
              rintro e w1 ⟨rfl, rfl⟩
              rw [hl]
              go_wp2_with fail
              refine (ageLive_any _ _ _).mono ?_
              rintro e w1 ⟨rfl, rfl⟩
              rw [hv]
              go_wp2_with fail
              refine (live12_any _).mono ?_
              rintro e w1 ⟨rfl, rfl⟩
              go_wp2
              go_ret
              exact ⟨rfl, Keeps.refl _⟩
            · obtain rfl : ttl = 0 := by omega
              obtain ⟨hl, hv⟩ := F
              rw [show decide ((0 : Int) < 0) = false from rfl] at hv
              go_enter Try.func4, Try.ntmps4
              go_wp2_with fail
              refine (until_any _ _ _ ht).mono ?_
              rintro e w1 ⟨rfl, rfl⟩
              generalize Ag.till now 0 = T at *
              go_wp2_with fail
              refine (left_any _ _ _ tb).mono ?_
              rintro e w1 ⟨rfl, rfl⟩
              rw [hl]
              go_wp2_with fail
              refine (ageLive_any _ _ _).mono ?_
              rintro e w1 ⟨rfl, rfl⟩
              rw [hv]
              go_wp2_with fail
              refine (live12_any _).mono ?_
              rintro e w1 ⟨rfl, rfl⟩
              go_wp2
              go_ret
              exact ⟨rfl, Keeps.refl _⟩
        · skip
          go_enter Try.func4, Try.ntmps4
          go_wp2_with fail
          refine (until_any _ _ _ ht).mono ?_
          rintro e w1 ⟨rfl, rfl⟩
          go_wp2_with fail
          refine (live12_any _).mono ?_
          rintro e w1 ⟨rfl, rfl⟩
          go_wp2
          go_ret
          exact ⟨rfl, Keeps.refl _⟩
    · go_enter Try.func4, Try.ntmps4
      go_wp2_with fail
      refine (until_any _ _ _ ht).mono ?_
      rintro e w1 ⟨rfl, rfl⟩
      go_wp2_with fail
      refine (live12_any _).mono ?_
      rintro e w1 ⟨rfl, rfl⟩
      go_wp2
      go_ret
      exact ⟨rfl, Keeps.refl _⟩
  · go_enter Try.func4, Try.ntmps4
    go_wp2_with fail
    refine (until_any _ _ _ ht).mono ?_
    rintro e w1 ⟨rfl, rfl⟩
    go_wp2_with fail
    refine (live12_any _).mono ?_
    rintro e w1 ⟨rfl, rfl⟩
    go_wp2
    go_ret
    exact ⟨rfl, Keeps.refl _⟩
end Go.Proofs.Ytpdbhnfdcflgdaa
