/- NameLies answers true, for every input: the walk. -/
import Derived.Test.YtedelldhkjkghaaNameLive
namespace Go.Proofs.Ytedelldhkjkghaa
open Go.RowKit

theorem anc_len (f : Nat) (l z : List UInt8) (h : Nm.okL l = true) (ha : Nm.anc f l z = true) : z.length ≤ l.length ∧ (z.length = l.length → z = l) ∧ Nm.okL z = true := by
  induction f generalizing l with
  | zero => simp [Nm.anc] at ha
  | succ f ih =>
    simp only [Nm.anc, Bool.or_eq_true, Bool.and_eq_true, beq_iff_eq, Bool.not_eq_true', beq_eq_false_iff_ne] at ha
    rcases ha with rfl | ⟨hr, ha⟩
    · exact ⟨Nat.le_refl _, fun _ => rfl, h⟩
    · have hu := Nm.up1_ok h hr
      have := ih (Nm.up1 l) hu.1 ha
      exact ⟨by omega, fun e => by omega, this.2.2⟩
theorem anc_trans (f : Nat) (l z k : List UInt8) (h : Nm.okL l = true) (ha : Nm.anc f l z = true) (hb : Nm.anc z.length z k = true) : Nm.anc l.length l k = true := by
  induction f generalizing l with
  | zero => simp [Nm.anc] at ha
  | succ f ih =>
    simp only [Nm.anc, Bool.or_eq_true, Bool.and_eq_true, beq_iff_eq, Bool.not_eq_true', beq_eq_false_iff_ne] at ha
    rcases ha with rfl | ⟨hr, ha⟩
    · exact hb
    · have hu := Nm.up1_ok h hr
      by_cases e : l = k
      · subst e; exact Nm.anc_self h
      · rw [Nm.anc_step h hr e]
        exact ih (Nm.up1 l) hu.1 ha
theorem in_spec (a b : List UInt8) : Nm.inB a b = true ↔ Nm.okL a = true ∧ Nm.okL b = true ∧ Nm.anc (Nm.lowL a).length (Nm.lowL a) (Nm.lowL b) = true := by
  simp only [Nm.inB, Bool.and_eq_true, Nm.lowL_length]
  exact ⟨fun h => ⟨h.1.1, h.1.2, h.2⟩, fun h => ⟨⟨h.1, h.2.1⟩, h.2.2⟩⟩
theorem in_trans (a b c : List UInt8) (h1 : Nm.inB a b = true) (h2 : Nm.inB b c = true) : Nm.inB a c = true := by
  rw [in_spec] at *
  exact ⟨h1.1, h2.2.1, anc_trans _ _ _ _ (by rw [Nm.ok_low]; exact h1.1) h1.2.2 h2.2.2⟩
theorem in_both (a b : List UInt8) : (Nm.inB a b && Nm.inB b a) = Nm.sameB a b := by
  rw [Bool.eq_iff_iff, Bool.and_eq_true, in_spec, in_spec]
  constructor
  · rintro ⟨⟨h1, h2, h3⟩, ⟨_, _, h4⟩⟩
    have l1 := anc_len _ _ _ (by rw [Nm.ok_low]; exact h1) h3
    have l2 := anc_len _ _ _ (by rw [Nm.ok_low]; exact h2) h4
    have e := l1.2.1 (by omega)
    simp [Nm.sameB, h1, h2, e]
  · intro h
    simp only [Nm.sameB, Bool.and_eq_true, beq_iff_eq] at h
    obtain ⟨⟨h1, h2⟩, h3⟩ := h
    have k1 := Nm.anc_self (l := Nm.lowL a) (by rw [Nm.ok_low]; exact h1)
    refine ⟨⟨h1, h2, ?_⟩, ⟨h2, h1, ?_⟩⟩
    · rw [← h3]; exact k1
    · rw [← h3]; exact k1

set_option maxHeartbeats 1600000 in
theorem NameLies_walk (a b c : ByteArray) (w : World) (ha : a.size ≤ maxLen) (hb : b.size ≤ maxLen) (hc : c.size ≤ maxLen) :
    Calls Try.prog 7 #[.string a, .string b, .string c] w fun e w' => e = .returned (.bool true) ∧ Keeps w w' := by
  have ha' := ha
  have hb' := hb
  have hc' := hc
  unfold maxLen at ha' hb' hc'
  by_cases l0 : 300 < (a.size : Int)
  · go_enter Try.func7, Try.ntmps7
    go_wp2_with (go_at_call 10; refine (live2_any _).mono ?_; rintro e w3 ⟨rfl, k3⟩)
    go_ret
    exact ⟨rfl, by assumption⟩
  by_cases l1 : 300 < (b.size : Int)
  · go_enter Try.func7, Try.ntmps7
    go_wp2_with (go_at_call 10; refine (live2_any _).mono ?_; rintro e w3 ⟨rfl, k3⟩)
    go_ret
    exact ⟨rfl, by assumption⟩
  by_cases l2 : 300 < (c.size : Int)
  · go_enter Try.func7, Try.ntmps7
    go_wp2_with (go_at_call 10; refine (live2_any _).mono ?_; rintro e w3 ⟨rfl, k3⟩)
    go_ret
    exact ⟨rfl, by assumption⟩
  have s3 := in_trans (bl a) (bl b) (bl c)
  have s5 := in_both (bl a) (bl b)
  cases hp : Nm.inB (bl a) (bl b)
  · rw [hp, Bool.false_and] at s5
    have S5 := hide s5
    clear s3 s5
    go_enter Try.func7, Try.ntmps7
    go_wp2_with fail
    refine (in_any _ _ _ ha hb).mono ?_
    rintro e w1 ⟨rfl, k1⟩
    rw [hp]
    go_wp2_with fail
    refine (in_any _ _ _ ha hb).mono ?_
    rintro e w2 ⟨rfl, k2⟩
    rw [hp]
    go_wp2_with fail
    refine (same_any _ _ _ ha hb).mono ?_
    rintro e w3 ⟨rfl, k3⟩
    rw [← S5.out]
    go_wp2_with fail
    refine (live2_any _).mono ?_
    rintro e w4 ⟨rfl, k4⟩
    go_wp2
    go_ret
    exact ⟨rfl, (((k1.trans k2).trans k3).trans k4)⟩
  · rw [hp, Bool.true_and] at s5
    replace s3 := s3 hp
    cases hx : Nm.inB (bl b) (bl a)
    · rw [hx] at s5
      have S5 := hide s5
      clear s5
      cases hq : Nm.inB (bl b) (bl c)
      · clear s3
        go_enter Try.func7, Try.ntmps7
        go_wp2_with fail
        refine (in_any _ _ _ ha hb).mono ?_
        rintro e w1 ⟨rfl, k1⟩
        rw [hp]
        go_wp2_with fail
        refine (in_any _ _ _ hb hc).mono ?_
        rintro e w2 ⟨rfl, k2⟩
        rw [hq]
        go_wp2_with fail
        refine (in_any _ _ _ ha hb).mono ?_
        rintro e w3 ⟨rfl, k3⟩
        rw [hp]
        go_wp2_with fail
        refine (in_any _ _ _ hb ha).mono ?_
        rintro e w4 ⟨rfl, k4⟩
        rw [hx]
        go_wp2_with fail
        refine (same_any _ _ _ ha hb).mono ?_
        rintro e w5 ⟨rfl, k5⟩
        rw [← S5.out]
        go_wp2_with fail
        refine (live2_any _).mono ?_
        rintro e w6 ⟨rfl, k6⟩
        go_wp2
        go_ret
        exact ⟨rfl, (((((k1.trans k2).trans k3).trans k4).trans k5).trans k6)⟩
      · have hr := s3 hq
        clear s3
        go_enter Try.func7, Try.ntmps7
        go_wp2_with fail
        refine (in_any _ _ _ ha hb).mono ?_
        rintro e w1 ⟨rfl, k1⟩
        rw [hp]
        go_wp2_with fail
        refine (in_any _ _ _ hb hc).mono ?_
        rintro e w2 ⟨rfl, k2⟩
        rw [hq]
        go_wp2_with fail
        refine (in_any _ _ _ ha hc).mono ?_
        rintro e w3 ⟨rfl, k3⟩
        rw [hr]
        go_wp2_with fail
        refine (in_any _ _ _ ha hb).mono ?_
        rintro e w4 ⟨rfl, k4⟩
        rw [hp]
        go_wp2_with fail
        refine (in_any _ _ _ hb ha).mono ?_
        rintro e w5 ⟨rfl, k5⟩
        rw [hx]
        go_wp2_with fail
        refine (same_any _ _ _ ha hb).mono ?_
        rintro e w6 ⟨rfl, k6⟩
        rw [← S5.out]
        go_wp2_with fail
        refine (live2_any _).mono ?_
        rintro e w7 ⟨rfl, k7⟩
        go_wp2
        go_ret
        exact ⟨rfl, ((((((k1.trans k2).trans k3).trans k4).trans k5).trans k6).trans k7)⟩
    · rw [hx] at s5
      have S5 := hide s5
      clear s5
      cases hq : Nm.inB (bl b) (bl c)
      · clear s3
        go_enter Try.func7, Try.ntmps7
        go_wp2_with fail
        refine (in_any _ _ _ ha hb).mono ?_
        rintro e w1 ⟨rfl, k1⟩
        rw [hp]
        go_wp2_with fail
        refine (in_any _ _ _ hb hc).mono ?_
        rintro e w2 ⟨rfl, k2⟩
        rw [hq]
        go_wp2_with fail
        refine (in_any _ _ _ ha hb).mono ?_
        rintro e w3 ⟨rfl, k3⟩
        rw [hp]
        go_wp2_with fail
        refine (in_any _ _ _ hb ha).mono ?_
        rintro e w4 ⟨rfl, k4⟩
        rw [hx]
        go_wp2_with fail
        refine (same_any _ _ _ ha hb).mono ?_
        rintro e w5 ⟨rfl, k5⟩
        rw [← S5.out]
        go_wp2_with fail
        refine (live2_any _).mono ?_
        rintro e w6 ⟨rfl, k6⟩
        go_wp2
        go_ret
        exact ⟨rfl, (((((k1.trans k2).trans k3).trans k4).trans k5).trans k6)⟩
      · have hr := s3 hq
        clear s3
        go_enter Try.func7, Try.ntmps7
        go_wp2_with fail
        refine (in_any _ _ _ ha hb).mono ?_
        rintro e w1 ⟨rfl, k1⟩
        rw [hp]
        go_wp2_with fail
        refine (in_any _ _ _ hb hc).mono ?_
        rintro e w2 ⟨rfl, k2⟩
        rw [hq]
        go_wp2_with fail
        refine (in_any _ _ _ ha hc).mono ?_
        rintro e w3 ⟨rfl, k3⟩
        rw [hr]
        go_wp2_with fail
        refine (in_any _ _ _ ha hb).mono ?_
        rintro e w4 ⟨rfl, k4⟩
        rw [hp]
        go_wp2_with fail
        refine (in_any _ _ _ hb ha).mono ?_
        rintro e w5 ⟨rfl, k5⟩
        rw [hx]
        go_wp2_with fail
        refine (same_any _ _ _ ha hb).mono ?_
        rintro e w6 ⟨rfl, k6⟩
        rw [← S5.out]
        go_wp2_with fail
        refine (live2_any _).mono ?_
        rintro e w7 ⟨rfl, k7⟩
        go_wp2
        go_ret
        exact ⟨rfl, ((((((k1.trans k2).trans k3).trans k4).trans k5).trans k6).trans k7)⟩
end Go.Proofs.Ytedelldhkjkghaa
