/- CompPrefix answers true, for every input: the walk. -/
import Derived.Test.YtknodmcjnadcpaaCompLive
namespace Go.Proofs.Ytknodmcjnadcpaa
open Go.RowKit

theorem read_kinds (l : List UInt8) (p : Int) : (Cm.readL l p).e = 0 ∨ (Cm.readL l p).e = 2 ∨ (Cm.readL l p).e = 3 := by
  rcases Cm.read_names l p with h | h | ⟨n, k, h, _⟩
  · rw [h]; exact .inr (.inl rfl)
  · rw [h]; exact .inr (.inr rfl)
  · rw [h]; exact .inl rfl

set_option maxHeartbeats 1600000 in
theorem CompPrefix_walk (s : ByteArray) (p c : Int) (w : World) (hs : s.size ≤ maxLen) (hp : -9223372036854775808 ≤ p ∧ p ≤ 9223372036854775807) (_ : -9223372036854775808 ≤ c ∧ c ≤ 9223372036854775807) :
    Calls Try.prog 8 #[.string s, .int .i64 p, .int .i64 c] w fun e w' => e = .returned (.bool true) ∧ Keeps w w' := by
  have hs' := hs
  unfold maxLen at hs'
  by_cases l1 : 2000 < (s.size : Int)
  · go_enter Try.func8, Try.ntmps8
    go_wp2_with (go_at_call 9; refine (live4_any _).mono ?_; rintro e w3 ⟨rfl, k3⟩)
    go_ret
    exact ⟨rfl, by assumption⟩
  by_cases l2 : c < 0
  · go_enter Try.func8, Try.ntmps8
    go_wp2_with (go_at_call 9; refine (live4_any _).mono ?_; rintro e w3 ⟨rfl, k3⟩)
    go_ret
    exact ⟨rfl, by assumption⟩
  by_cases l3 : (s.size : Int) < c
  · go_enter Try.func8, Try.ntmps8
    go_wp2_with (go_at_call 9; refine (live4_any _).mono ?_; rintro e w3 ⟨rfl, k3⟩)
    go_ret
    exact ⟨rfl, by assumption⟩
  obtain ⟨q, rfl⟩ := Int.eq_ofNat_of_zero_le (show 0 ≤ c by omega)
  have h2 : bl (s ++ ⟨#[0, 1]⟩) = bl s ++ [0, 1] := by rw [bl_append]; rfl
  have h3 : bl s = bl (s.extract 0 q) ++ (bl s).drop q := by rw [bl_extract, Nat.sub_zero, List.drop_zero, List.take_append_drop]
  have m2 : (s ++ ⟨#[0, 1]⟩).size ≤ maxLen := by
    rw [← bl_length, h2, List.length_append, bl_length]; unfold maxLen; simp; omega
  have m3 : (s.extract 0 q).size ≤ maxLen := by rw [ByteArray.size_extract]; unfold maxLen; omega
  have f1 := Cm.read_more (bl s) [0, 1] p
  rw [← h2] at f1
  have f2 : (Cm.readL (bl (s.extract 0 q)) p).e = 0 → Cm.readL (bl s) p = Cm.readL (bl (s.extract 0 q)) p := by
    intro h
    have := Cm.read_more (bl (s.extract 0 q)) ((bl s).drop q) p h
    rw [← h3] at this
    exact this
  have g1 := read_kinds (bl s) p
  have g3 := read_kinds (bl (s.extract 0 q)) p
  have F1 := hide f1
  have F2 := hide f2
  clear h2 h3 f1 f2
  have hq0 : (0 : Int) ≤ (q : Int) := by omega
  have hq1 : (q : Int) ≤ (s.size : Int) := by omega
  by_cases e3 : (Cm.readL (bl (s.extract 0 q)) p).e = 0
  · have E1 := F2.out e3
    have e1 : (Cm.readL (bl s) p).e = 0 := by rw [E1]; exact e3
    have E2 := F1.out e1
    have HE1 := hide E1
    have HE2 := hide E2
    clear E1 E2 g1 g3
    go_enter Try.func8, Try.ntmps8
    go_wp2_with fail
    refine (read_any _ _ _ hs hp.2).mono ?_
    rintro e wk1 ⟨rfl, k1⟩
    go_wp2_with fail
    refine (read_any _ _ _ m2 hp.2).mono ?_
    rintro e wk2 ⟨rfl, k2⟩
    rw [HE2.out]
    go_wp2_with fail
    refine (read_any _ _ _ m3 hp.2).mono ?_
    rintro e wk3 ⟨rfl, k3⟩
    rw [← HE1.out]
    go_wp2_with fail
    refine (live4_any _).mono ?_
    rintro e wk4 ⟨rfl, k4⟩
    go_wp2
    go_ret
    exact ⟨rfl, ((k1.trans k2).trans k3).trans k4⟩
  · rcases g1 with e1 | e1 | e1
    · have E2 := hide (F1.out e1)
      rcases g3 with e3' | e3' | e3'
      · exact absurd e3' e3
      · clear e3
        go_enter Try.func8, Try.ntmps8
        go_wp2_with fail
        refine (read_any _ _ _ hs hp.2).mono ?_
        rintro e wk1 ⟨rfl, k1⟩
        go_wp2_with fail
        refine (read_any _ _ _ m2 hp.2).mono ?_
        rintro e wk2 ⟨rfl, k2⟩
        rw [E2.out]
        go_wp2_with fail
        refine (read_any _ _ _ m3 hp.2).mono ?_
        rintro e wk3 ⟨rfl, k3⟩
        go_wp2_with fail
        refine (live4_any _).mono ?_
        rintro e wk4 ⟨rfl, k4⟩
        go_wp2
        go_ret
        exact ⟨rfl, ((k1.trans k2).trans k3).trans k4⟩
      · clear e3
        go_enter Try.func8, Try.ntmps8
        go_wp2_with fail
        refine (read_any _ _ _ hs hp.2).mono ?_
        rintro e wk1 ⟨rfl, k1⟩
        go_wp2_with fail
        refine (read_any _ _ _ m2 hp.2).mono ?_
        rintro e wk2 ⟨rfl, k2⟩
        rw [E2.out]
        go_wp2_with fail
        refine (read_any _ _ _ m3 hp.2).mono ?_
        rintro e wk3 ⟨rfl, k3⟩
        go_wp2_with fail
        refine (live4_any _).mono ?_
        rintro e wk4 ⟨rfl, k4⟩
        go_wp2
        go_ret
        exact ⟨rfl, ((k1.trans k2).trans k3).trans k4⟩
    · rcases g3 with e3' | e3' | e3'
      · exact absurd e3' e3
      · clear e3
        go_enter Try.func8, Try.ntmps8
        go_wp2_with fail
        refine (read_any _ _ _ hs hp.2).mono ?_
        rintro e wk1 ⟨rfl, k1⟩
        go_wp2_with fail
        refine (read_any _ _ _ m2 hp.2).mono ?_
        rintro e wk2 ⟨rfl, k2⟩
        go_wp2_with fail
        refine (read_any _ _ _ m3 hp.2).mono ?_
        rintro e wk3 ⟨rfl, k3⟩
        go_wp2_with fail
        refine (live4_any _).mono ?_
        rintro e wk4 ⟨rfl, k4⟩
        go_wp2
        go_ret
        exact ⟨rfl, ((k1.trans k2).trans k3).trans k4⟩
      · clear e3
        go_enter Try.func8, Try.ntmps8
        go_wp2_with fail
        refine (read_any _ _ _ hs hp.2).mono ?_
        rintro e wk1 ⟨rfl, k1⟩
        go_wp2_with fail
        refine (read_any _ _ _ m2 hp.2).mono ?_
        rintro e wk2 ⟨rfl, k2⟩
        go_wp2_with fail
        refine (read_any _ _ _ m3 hp.2).mono ?_
        rintro e wk3 ⟨rfl, k3⟩
        go_wp2_with fail
        refine (live4_any _).mono ?_
        rintro e wk4 ⟨rfl, k4⟩
        go_wp2
        go_ret
        exact ⟨rfl, ((k1.trans k2).trans k3).trans k4⟩
    · rcases g3 with e3' | e3' | e3'
      · exact absurd e3' e3
      · clear e3
        go_enter Try.func8, Try.ntmps8
        go_wp2_with fail
        refine (read_any _ _ _ hs hp.2).mono ?_
        rintro e wk1 ⟨rfl, k1⟩
        go_wp2_with fail
        refine (read_any _ _ _ m2 hp.2).mono ?_
        rintro e wk2 ⟨rfl, k2⟩
        go_wp2_with fail
        refine (read_any _ _ _ m3 hp.2).mono ?_
        rintro e wk3 ⟨rfl, k3⟩
        go_wp2_with fail
        refine (live4_any _).mono ?_
        rintro e wk4 ⟨rfl, k4⟩
        go_wp2
        go_ret
        exact ⟨rfl, ((k1.trans k2).trans k3).trans k4⟩
      · clear e3
        go_enter Try.func8, Try.ntmps8
        go_wp2_with fail
        refine (read_any _ _ _ hs hp.2).mono ?_
        rintro e wk1 ⟨rfl, k1⟩
        go_wp2_with fail
        refine (read_any _ _ _ m2 hp.2).mono ?_
        rintro e wk2 ⟨rfl, k2⟩
        go_wp2_with fail
        refine (read_any _ _ _ m3 hp.2).mono ?_
        rintro e wk3 ⟨rfl, k3⟩
        go_wp2_with fail
        refine (live4_any _).mono ?_
        rintro e wk4 ⟨rfl, k4⟩
        go_wp2
        go_ret
        exact ⟨rfl, ((k1.trans k2).trans k3).trans k4⟩
end Go.Proofs.Ytknodmcjnadcpaa
