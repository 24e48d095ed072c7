/- OctetLays answers true, for every input: the walk. -/
import Derived.Test.YtllejfkjomcgbaaOctLive
import Derived.Test.YtllejfkjomcgbaaOctMath2
import Derived.Deep.RegionHeld3
namespace Go.Proofs.Ytllejfkjomcgbaa
open Go.RowKit

set_option maxHeartbeats 800000 in
theorem OctetLays_walk (s : ByteArray) (p : Int) (t : ByteArray) (w : World) (hs : s.size ≤ maxLen) (hp0 : -9223372036854775808 ≤ p ∧ p ≤ 9223372036854775807) (ht : t.size ≤ maxLen) :
    Calls Try.prog 5 #[.string s, .int .i64 p, .string t] w fun e w' => e = .returned (.bool true) ∧ Keeps w w' := by
  have hp := hp0.2
  clear hp0
  have hs' := hs
  unfold maxLen at hs'
  have ht' := ht
  unfold maxLen at ht'
  by_cases hl : 70000 < (s.size : Int)
  · go_enter Try.func5, Try.ntmps5
    go_wp2_with (go_at_call 9; refine (live_any _).mono ?_; rintro e w3 ⟨rfl, k3⟩)
    go_ret
    exact ⟨rfl, by assumption⟩
  by_cases hl2 : 70000 < (t.size : Int)
  · go_enter Try.func5, Try.ntmps5
    go_wp2_with (go_at_call 9; refine (live_any _).mono ?_; rintro e w3 ⟨rfl, k3⟩)
    go_ret
    exact ⟨rfl, by assumption⟩
  by_cases h : Oct.layOk s p t = true
  · have h' := (Oct.takeOk_spec s p t.size).1 h
    obtain ⟨q, rfl⟩ := Int.eq_ofNat_of_zero_le h'.1
    obtain ⟨f1, f2, f3, f4, f5⟩ := Oct.lay_facts s t q h
    have hm : (Oct.layS s q t).size ≤ maxLen := by rw [f1]; exact hs
    have f6 : Oct.takeOk s q t.size = true := h
    have h2 : (t.size : Int) ≤ (s.size : Int) - q := h'.2.2
    clear h'
    go_enter Try.func5, Try.ntmps5
    go_wp2_with fail
    refine (lay_any _ _ _ _ hs ht hp).mono ?_
    rintro e w1 ⟨rfl, k1⟩
    rw [h]
    generalize Oct.layS s q t = T at *
    go_wp2_with fail
    refine (take_any _ _ _ _ hm hp).mono ?_
    rintro e w2 ⟨rfl, hw2⟩
    subst hw2
    rw [f2, f3]
    go_wp2_with fail
    refine (reftake_any _ _ _ _ hs hp).mono ?_
    rintro e w2 ⟨rfl, hw2⟩
    subst hw2
    rw [f6]
    go_wp2_with fail
    have c4 : (q : Int) + (t.size : Int) ≤ (s.size : Int) := by omega
    have c5 : IntKind.i64.wrap ((q : Int) + (t.size : Int)) = (q : Int) + (t.size : Int) := by rw [IntKind.wrap_i64]; omega
    have c6 : ((q : Int) + (t.size : Int)).toNat = q + t.size := by omega
    have r1 : ∀ w, (Instr.slice 9 (.string T) none (some (.int .i64 (q : Int))) none).run Try.prog w = .ok (.string (s.extract 0 q)) w := by
      intro w; rw [run_slice_string_to_if w _ T .i64 q Try.underlying9, if_pos (by omega), Int.toNat_natCast, f4]
    have r2 : ∀ w, (Instr.slice 9 (.string s) none (some (.int .i64 (q : Int))) none).run Try.prog w = .ok (.string (s.extract 0 q)) w := by
      intro w; rw [run_slice_string_to_if w _ s .i64 q Try.underlying9, if_pos (by omega), Int.toNat_natCast]
    have r3 : ∀ w, (Instr.slice 9 (.string T) (some (.int .i64 ((q : Int) + (t.size : Int)))) none none).run Try.prog w = .ok (.string (s.extract (q + t.size) s.size)) w := by
      intro w; rw [run_slice_string_from_if w _ T .i64 _ Try.underlying9, if_pos (by omega), c6, f1, f5]
    have r4 : ∀ w, (Instr.slice 9 (.string s) (some (.int .i64 ((q : Int) + (t.size : Int)))) none none).run Try.prog w = .ok (.string (s.extract (q + t.size) s.size)) w := by
      intro w; rw [run_slice_string_from_if w _ s .i64 _ Try.underlying9, if_pos (by omega), c6]
    clear hm f1 f4 f5 f6 h2 f2 f3 c6
    generalize s.extract 0 q = A at *
    generalize s.extract (q + t.size) s.size = B at *
    go_region_held3 (fun _ => True) (trivial) ((go_at_call 9; refine (live_any _).mono ?_; rintro e w3 ⟨rfl, k3⟩))
    all_goals (go_wp2; go_ret; exact ⟨rfl, k1.drew.trans (by assumption)⟩)
  · simp only [Bool.not_eq_true] at h
    go_enter Try.func5, Try.ntmps5
    go_wp2_with fail
    refine (lay_any _ _ _ _ hs ht hp).mono ?_
    rintro e w1 ⟨rfl, k1⟩
    rw [h, Oct.layS_no s p t h]
    go_wp2_with fail
    refine (live_any _).mono ?_
    rintro e w2 ⟨rfl, k2⟩
    go_wp2
    go_ret
    exact ⟨rfl, k1.trans k2⟩
end Go.Proofs.Ytllejfkjomcgbaa
