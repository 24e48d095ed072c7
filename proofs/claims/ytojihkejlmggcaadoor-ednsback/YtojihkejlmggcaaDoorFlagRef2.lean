/- What the document's answer for package flag tells. No condition. -/
import Derived.Test.YtojihkejlmggcaaDoorFlagRef
namespace Go.Proofs.YtojihkejlmggcaaDoor
open Go.RowKit

theorem power_any (n A : Nat) (w : World) (hn : n ≤ 15) (HA : Hid (2 ^ n = A)) :
    Calls Tryd.prog 30 #[.int .i64 n] w fun e w' => e = .returned (.int .i64 A) ∧ w' = w := by
  go_enter Tryd.func30, Tryd.ntmps30
  go_wp2
  go_loop [3, 4] (fun p i => ∃ a P : Nat, a ≤ n ∧ i = .int .i64 a ∧ p = .int .i64 P ∧ Hid (2 ^ a = P)) (fun _ i => n - (intOf i).toNat)
  case atStart => exact ⟨0, 1, Nat.zero_le _, rfl, rfl, hide rfl⟩
  case round =>
    obtain ⟨a, P, ha, rfl, rfl, HP⟩ := hrel
    by_cases hlt : a < n
    · have hP : P ≤ 32768 := by rw [← HP.out]; exact Nat.pow_le_pow_right (i := a) (j := 15) (by omega) (by omega)
      have HQ := hide (show 2 ^ (a + 1) = 2 * P by rw [Nat.pow_succ, HP.out]; omega)
      go_wp2
      go_round
      case rel => exact ⟨a + 1, 2 * P, by omega, by go_num, by go_num, HQ⟩
      case measure => simp [intOf]; omega
    · obtain rfl : a = n := by omega
      obtain rfl : A = P := HA.out.symm.trans HP.out
      go_wp2
      go_ret
      exact ⟨rfl, rfl⟩

def powI (x : Int) : Int := ((2 ^ x.toNat : Nat) : Int)
theorem powI_any (x : Int) (w : World) (h : 0 ≤ x ∧ x ≤ 15) :
    Calls Tryd.prog 30 #[.int .i64 x] w fun e w' => e = .returned (.int .i64 (powI x)) ∧ w' = w := by
  obtain ⟨n, rfl⟩ := Int.eq_ofNat_of_zero_le h.1
  exact power_any n _ w (by omega) (hide (by simp))

/-- The two numbers of a place, where it was laid. -/
def Two7 (B : Nat) (p k : Int) (w : World) : Prop := w.cell? ⟨B, 0, none⟩ = some (.int .i64 p) ∧ w.cell? ⟨B, 1, none⟩ = some (.int .i64 k) ∧ B < w.heap.size
theorem Two7.keeps {B : Nat} {p k : Int} {w w' : World} (h : Two7 B p k w) (hk : Keeps w w') : Two7 B p k w' :=
  ⟨(hk.cell (p := ⟨B, 0, none⟩) h.2.2).trans h.1, (hk.cell (p := ⟨B, 1, none⟩) h.2.2).trans h.2.1, Nat.lt_of_lt_of_le h.2.2 hk.size⟩
theorem Two7.made (w : World) (p k : Int) : Two7 w.heap.size p k (w.alloc (.cells #[.int .i64 p, .int .i64 k] 62)) := by
  refine ⟨?_, ?_, by simp⟩
  · exact (World.cell?_alloc_mark w _ _ (0, 0) 0).trans rfl
  · exact (World.cell?_alloc_mark w _ _ (0, 0) 1).trans rfl

set_option maxHeartbeats 1600000 in
theorem refof_yes (f b L C P S : Int) (w : World) (hL : loF f = L) (hC : ctF f = C) (hC0 : (C == 0) = false) (hb : 0 ≤ b) (hb2 : b ≤ 65535) (hP : 0 < P) (hS : 0 < S)
    (pL : powI L = P) (pC : powI C = S) (bL : 0 ≤ L ∧ L ≤ 15) (bC : 0 ≤ C ∧ C ≤ 15) :
    Calls Tryd.prog 28 #[.int .i64 f, .int .i64 b] w fun e w' => e = .returned (.int .i64 (b / P % S)) ∧ Keeps w w' := by
  have H1 := hide (place_any f)
  rw [hL, hC] at H1
  clear hL hC
  go_enter Tryd.func28, Tryd.ntmps28
  go_wp2_with fail
  refine (H1.out _).mono ?_
  rintro e w1 ⟨rfl, k1⟩
  have T1 := Two7.made w1 L C
  have KK := hide (k1.alloc (.cells #[.int .i64 L, .int .i64 C] 62))
  have d1 : b.tdiv P = b / P := Int.tdiv_eq_ediv_of_nonneg hb
  have q0 : 0 ≤ b / P := Int.ediv_nonneg hb (by omega)
  have q1 : b / P ≤ b := Int.ediv_le_self _ hb
  have hP0 : ¬ P = 0 := by omega
  have hS0 : ¬ S = 0 := by omega
  have d3 : IntKind.i64.wrap (b / P) = b / P := by rw [IntKind.wrap_i64]; omega
  have d2 : (b / P).tmod S = b / P % S := Int.tmod_eq_emod_of_nonneg q0
  unfold plV
  go_wp2_with fail
  generalize w1.alloc (.cells #[.int .i64 L, .int .i64 C] 62) = w2 at *
  generalize w1.heap.size = G at *
  go_region_held3 (fun w' => w'.cell? ⟨G, 0, none⟩ = some (.int .i64 L) ∧ w'.cell? ⟨G, 1, none⟩ = some (.int .i64 C) ∧ G < w'.heap.size) (exact T1) ((go_at_call 30; refine (powI_any _ _ (by first | exact bL | exact bC)).mono ?_; rintro e w5 ⟨rfl, hw⟩; subst hw; first | rw [pL] | rw [pC]))
  go_wp2
  go_ret
  exact ⟨rfl, KK.out.drew⟩

theorem ctF_yes {f : Int} (h : Fl.isF f = true) : (ctF f == 0) = false ∧ 0 < Fl.pw f ∧ 0 < Fl.sz f ∧ powI (loF f) = Fl.pw f ∧ powI (ctF f) = Fl.sz f ∧ (0 ≤ loF f ∧ loF f ≤ 15) ∧ (0 ≤ ctF f ∧ ctF f ≤ 15) := by
  rcases Fl.field h with rfl | rfl | rfl | rfl | rfl | rfl | rfl | rfl | rfl <;> decide
theorem ctF_no {f : Int} (h : Fl.isF f = false) : ctF f = 0 := by
  simp only [Fl.isF, decide_eq_false_iff_not] at h
  rw [ctF, if_neg h]

set_option maxHeartbeats 1600000 in
theorem refof_any (f b : Int) (w : World) :
    Calls Tryd.prog 28 #[.int .i64 f, .int .i64 b] w fun e w' => e = .returned (.int .i64 (Fl.of f b)) ∧ Keeps w w' := by
  cases hf : Fl.isF f
  · have hc := ctF_no hf
    have ho : Fl.of f b = 0 := by simp [Fl.of, hf]
    rw [ho]
    have H1 := hide (place_any f)
    rw [hc] at H1
    clear hc ho
    generalize loF f = L at *
    by_cases h0 : b < 0
    · go_enter Tryd.func28, Tryd.ntmps28
      go_wp2_with fail
      refine (H1.out _).mono ?_
      rintro e w1 ⟨rfl, k1⟩
      unfold plV
      go_wp2
      go_ret
      exact ⟨rfl, k1.alloc _⟩
    · by_cases h1 : 65535 < b
      · go_enter Tryd.func28, Tryd.ntmps28
        go_wp2_with fail
        refine (H1.out _).mono ?_
        rintro e w1 ⟨rfl, k1⟩
        unfold plV
        go_wp2
        go_ret
        exact ⟨rfl, k1.alloc _⟩
      · go_enter Tryd.func28, Tryd.ntmps28
        go_wp2_with fail
        refine (H1.out _).mono ?_
        rintro e w1 ⟨rfl, k1⟩
        unfold plV
        go_wp2
        go_ret
        exact ⟨rfl, k1.alloc _⟩
  · cases hb : Fl.isB b
    · have ho : Fl.of f b = 0 := by simp [Fl.of, hb]
      rw [ho]
      have H1 := hide (place_any f)
      generalize loF f = L at *
      generalize ctF f = C at *
      simp only [Fl.isB, decide_eq_false_iff_not] at hb
      by_cases h0 : b < 0
      · go_enter Tryd.func28, Tryd.ntmps28
        go_wp2_with fail
        refine (H1.out _).mono ?_
        rintro e w1 ⟨rfl, k1⟩
        unfold plV
        go_wp2
        go_ret
        exact ⟨rfl, k1.alloc _⟩
      · have h1 : 65535 < b := by omega
        clear hb
        go_enter Tryd.func28, Tryd.ntmps28
        go_wp2_with fail
        refine (H1.out _).mono ?_
        rintro e w1 ⟨rfl, k1⟩
        unfold plV
        go_wp2
        go_ret
        exact ⟨rfl, k1.alloc _⟩
    · have ho : Fl.of f b = Fl.get f b := by simp [Fl.of, hf, hb]
      rw [ho]
      simp only [Fl.isB, decide_eq_true_eq] at hb
      obtain ⟨c0, p0, s0, c1, c2, c3, c4⟩ := ctF_yes hf
      exact refof_yes f b _ _ _ _ w rfl rfl c0 hb.1 hb.2 p0 s0 c1 c2 c3 c4

theorem of_bound (f b : Int) : 0 ≤ Fl.of f b ∧ Fl.of f b ≤ 15 := by
  unfold Fl.of Fl.get
  split
  · have : Fl.sz f = 2 ∨ Fl.sz f = 16 := by
      unfold Fl.sz
      split
      · exact .inr rfl
      · split
        · exact .inr rfl
        · exact .inl rfl
    rcases this with h | h <;> rw [h] <;> omega
  · omega

set_option maxHeartbeats 1600000 in
theorem refwith_yes (f b v L C P S : Int) (w : World) (hL : loF f = L) (hC : ctF f = C) (hC0 : (C == 0) = false) (hb : 0 ≤ b) (hb2 : b ≤ 65535) (hP : 0 < P) (hP2 : P ≤ 32768) (hS : S ≤ 16)
    (pL : powI L = P) (pC : powI C = S) (bL : 0 ≤ L ∧ L ≤ 15) (bC : 0 ≤ C ∧ C ≤ 15) (hv : 0 ≤ v) (hv2 : v < S) :
    Calls Tryd.prog 18 #[.int .i64 f, .int .i64 b, .int .i64 v] w fun e w' => e = .returned (.tuple #[.int .i64 (b + (v - Fl.of f b) * P), .bool true]) ∧ Keeps w w' := by
  have H1 := hide (place_any f)
  rw [hL, hC] at H1
  clear hL hC
  have H2 := hide (refof_any f b)
  have ob := of_bound f b
  generalize Fl.of f b = O at *
  have d1 : IntKind.i64.wrap (v - O) = v - O := by rw [IntKind.wrap_i64]; omega
  have m1 : (v - O) * P ≤ 16 * 32768 := by
    have h1 : (v - O) * P ≤ 16 * P := Int.mul_le_mul_of_nonneg_right (by omega) (by omega)
    omega
  have m2 : -(16 * 32768) ≤ (v - O) * P := by
    have h1 : (-16) * P ≤ (v - O) * P := Int.mul_le_mul_of_nonneg_right (by omega) (by omega)
    omega
  have d2 : IntKind.i64.wrap ((v - O) * P) = (v - O) * P := by rw [IntKind.wrap_i64]; omega
  have d3 : IntKind.i64.wrap (b + (v - O) * P) = b + (v - O) * P := by rw [IntKind.wrap_i64]; omega
  clear m1 m2 ob
  go_enter Tryd.func18, Tryd.ntmps18
  go_wp2_with fail
  refine (H1.out _).mono ?_
  rintro e w1 ⟨rfl, k1⟩
  have T1 := Two7.made w1 L C
  have KK := hide (k1.alloc (.cells #[.int .i64 L, .int .i64 C] 62))
  unfold plV
  go_wp2_with (go_at_call 30; refine (powI_any _ _ bC).mono ?_; rintro e w5 ⟨rfl, hw⟩; subst hw; rw [pC])
  generalize w1.alloc (.cells #[.int .i64 L, .int .i64 C] 62) = w2 at *
  generalize w1.heap.size = G at *
  have T2 : Two7 G L C w2.drew := T1
  have K2 : Keeps w w2.drew := KK.out.drew
  clear T1 KK
  go_region_held3 (fun w' => w'.cell? ⟨G, 0, none⟩ = some (.int .i64 L) ∧ w'.cell? ⟨G, 1, none⟩ = some (.int .i64 C) ∧ G < w'.heap.size) (exact T2) ((first | (go_at_call 30; refine (powI_any _ _ bL).mono ?_; rintro e w5 ⟨rfl, hw⟩; subst hw; rw [pL]) | (go_at_call 28; refine (H2.out _).mono ?_; rintro e w5 ⟨rfl, k5⟩; replace T2 := Two7.keeps T2 k5; replace K2 := Keeps.trans K2 k5; clear k5)))
  go_wp2
  go_ret2
  exact ⟨rfl, K2⟩

set_option maxHeartbeats 1600000 in
theorem refwith_b0 (f b v : Int) (w : World) (h0 : b < 0) : Calls Tryd.prog 18 #[.int .i64 f, .int .i64 b, .int .i64 v] w fun e w' => e = .returned (.tuple #[.int .i64 0, .bool false]) ∧ Keeps w w' := by
  have H1 := hide (place_any f)
  generalize loF f = L at *
  generalize ctF f = C at *
  go_enter Tryd.func18, Tryd.ntmps18
  go_wp2_with fail
  refine (H1.out _).mono ?_
  rintro e w1 ⟨rfl, k1⟩
  unfold plV
  go_wp2_with (fail)
  go_ret2
  exact ⟨rfl, k1.alloc _⟩
set_option maxHeartbeats 1600000 in
theorem refwith_b1 (f b v : Int) (w : World) (h0 : ¬ b < 0) (h1 : 65535 < b) : Calls Tryd.prog 18 #[.int .i64 f, .int .i64 b, .int .i64 v] w fun e w' => e = .returned (.tuple #[.int .i64 0, .bool false]) ∧ Keeps w w' := by
  have H1 := hide (place_any f)
  generalize loF f = L at *
  generalize ctF f = C at *
  go_enter Tryd.func18, Tryd.ntmps18
  go_wp2_with fail
  refine (H1.out _).mono ?_
  rintro e w1 ⟨rfl, k1⟩
  unfold plV
  go_wp2_with (fail)
  go_ret2
  exact ⟨rfl, k1.alloc _⟩
theorem refwith_b (f b v : Int) (w : World) (h : b < 0 ∨ 65535 < b) : Calls Tryd.prog 18 #[.int .i64 f, .int .i64 b, .int .i64 v] w fun e w' => e = .returned (.tuple #[.int .i64 0, .bool false]) ∧ Keeps w w' := by
  by_cases h0 : b < 0
  · exact refwith_b0 f b v w h0
  · exact refwith_b1 f b v w h0 (by omega)
set_option maxHeartbeats 1600000 in
theorem refwith_c (f b v : Int) (w : World) (h0 : ¬ b < 0) (h1 : ¬ 65535 < b) (hC : ctF f = 0) : Calls Tryd.prog 18 #[.int .i64 f, .int .i64 b, .int .i64 v] w fun e w' => e = .returned (.tuple #[.int .i64 0, .bool false]) ∧ Keeps w w' := by
  have H1 := hide (place_any f)
  rw [hC] at H1
  generalize loF f = L at *
  go_enter Tryd.func18, Tryd.ntmps18
  go_wp2_with fail
  refine (H1.out _).mono ?_
  rintro e w1 ⟨rfl, k1⟩
  unfold plV
  go_wp2_with (fail)
  go_ret2
  exact ⟨rfl, k1.alloc _⟩
set_option maxHeartbeats 1600000 in
theorem refwith_v (f b v : Int) (w : World) (h0 : ¬ b < 0) (h1 : ¬ 65535 < b) (hC : (ctF f == 0) = false) (h2 : v < 0) : Calls Tryd.prog 18 #[.int .i64 f, .int .i64 b, .int .i64 v] w fun e w' => e = .returned (.tuple #[.int .i64 0, .bool false]) ∧ Keeps w w' := by
  have H1 := hide (place_any f)
  generalize loF f = L at *
  generalize ctF f = C at *
  go_enter Tryd.func18, Tryd.ntmps18
  go_wp2_with fail
  refine (H1.out _).mono ?_
  rintro e w1 ⟨rfl, k1⟩
  unfold plV
  go_wp2_with (fail)
  go_ret2
  exact ⟨rfl, k1.alloc _⟩
set_option maxHeartbeats 1600000 in
theorem refwith_s (f b v S : Int) (w : World) (h0 : ¬ b < 0) (h1 : ¬ 65535 < b) (hC : (ctF f == 0) = false) (pC : powI (ctF f) = S) (bC : 0 ≤ ctF f ∧ ctF f ≤ 15) (h2 : ¬ v < 0) (h3 : ¬ v < S) : Calls Tryd.prog 18 #[.int .i64 f, .int .i64 b, .int .i64 v] w fun e w' => e = .returned (.tuple #[.int .i64 0, .bool false]) ∧ Keeps w w' := by
  have H1 := hide (place_any f)
  generalize loF f = L at *
  generalize ctF f = C at *
  go_enter Tryd.func18, Tryd.ntmps18
  go_wp2_with fail
  refine (H1.out _).mono ?_
  rintro e w1 ⟨rfl, k1⟩
  unfold plV
  go_wp2_with (go_at_call 30; refine (powI_any _ _ bC).mono ?_; rintro e w5 ⟨rfl, hw⟩; subst hw; rw [pC])
  go_ret2
  exact ⟨rfl, k1.alloc _⟩
theorem pw_bound {f : Int} (h : Fl.isF f = true) : Fl.pw f ≤ 32768 ∧ Fl.sz f ≤ 16 := by
  rcases Fl.field h with rfl | rfl | rfl | rfl | rfl | rfl | rfl | rfl | rfl <;> decide

set_option maxHeartbeats 1600000 in
theorem refwith_any (f b v : Int) (w : World) :
    Calls Tryd.prog 18 #[.int .i64 f, .int .i64 b, .int .i64 v] w fun e w' => e = .returned (.tuple #[.int .i64 (Fl.with_ f b v), .bool (Fl.may f b v)]) ∧ Keeps w w' := by
  cases hm : Fl.may f b v
  · have hw : Fl.with_ f b v = 0 := by simp [Fl.with_, hm]
    rw [hw]
    clear hw
    by_cases h0 : b < 0
    · exact refwith_b f b v w (.inl h0)
    · by_cases h1 : 65535 < b
      · exact refwith_b f b v w (.inr h1)
      · cases hf : Fl.isF f
        · exact refwith_c f b v w h0 h1 (ctF_no hf)
        · obtain ⟨c0, p0, s0, c1, c2, c3, c4⟩ := ctF_yes hf
          by_cases h2 : v < 0
          · exact refwith_v f b v w h0 h1 c0 h2
          · refine refwith_s f b v _ w h0 h1 c0 c2 c4 h2 ?_
            simp only [Fl.may, hf, Fl.isB, Bool.true_and, Bool.and_eq_false_iff, decide_eq_false_iff_not] at hm
            rcases hm with hm | hm <;> omega
  · have hw : Fl.with_ f b v = Fl.lay f b v := by simp [Fl.with_, hm]
    rw [hw]
    simp only [Fl.may, Bool.and_eq_true, decide_eq_true_eq] at hm
    obtain ⟨⟨hf, hb⟩, h0, h1⟩ := hm
    have ho : Fl.of f b = Fl.get f b := by simp [Fl.of, hf, hb]
    simp only [Fl.isB, decide_eq_true_eq] at hb
    obtain ⟨c0, p0, s0, c1, c2, c3, c4⟩ := ctF_yes hf
    obtain ⟨b1, b2⟩ := pw_bound hf
    have := refwith_yes f b v _ _ _ _ w rfl rfl c0 hb.1 hb.2 p0 b1 b2 c1 c2 c3 c4 h0 h1
    rw [ho] at this
    exact this

end Go.Proofs.YtojihkejlmggcaaDoor
