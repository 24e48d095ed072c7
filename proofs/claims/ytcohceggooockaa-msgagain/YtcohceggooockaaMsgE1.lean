/- The document's small, records, Base of layer 8. No condition but lengths. -/
import Derived.Test.YtcohceggooockaaMsgW7
import Derived.Test.YtcohceggooockaaMsgR3
import Derived.Deep.DeepCutAuto
namespace Go.Proofs.Ytcohceggooockaa
open Go.RowKit

theorem small8_any (x : Int) (w : World) :
    Calls Try.prog 46 #[.int .i64 x] w fun e w' => e = .returned (.bool (num2 x)) ∧ w' = w := by
  by_cases h0 : 0 ≤ x
  · by_cases h1 : x ≤ 65535
    · go_enter Try.func46, Try.ntmps46
      go_wp2
      go_ret
      exact ⟨ret_bool (by simp [num2]; omega), rfl⟩
    · go_enter Try.func46, Try.ntmps46
      go_wp2
      go_ret
      exact ⟨ret_bool (by simp [num2]; omega), rfl⟩
  · go_enter Try.func46, Try.ntmps46
    go_wp2
    go_ret
    exact ⟨ret_bool (by simp [num2]; omega), rfl⟩

set_option maxHeartbeats 4000000 in
set_option maxRecDepth 100000 in
theorem records8_any (v : Value) (l : List Rec) (w : World) (hr : ReadRow w v 5 (l.map recL8)) (hl : l.length ≤ maxLen) (hb : ∀ x ∈ l, x.n.size ≤ maxLen ∧ x.d.size ≤ maxLen) :
    Calls Try.prog 47 #[v] w fun e w' => e = .returned (.bool (rsOk l)) ∧ Keeps w w' := by
  have hl' := hl
  unfold maxLen at hl'
  have HB := hide hb
  clear hb
  obtain ⟨a, cap, hv⟩ := hr.len
  rw [List.length_map] at hv
  subst hv
  have H0 := hide (small8_any l.length)
  have HR := hide (show rsOk l = (num2 l.length && l.all recOk) from rfl)
  generalize rsOk l = R at *
  generalize hN : num2 l.length = N0 at *
  replace hN := hide hN
  go_enter Try.func47, Try.ntmps47
  go_wp2_with fail
  go_loopw [3] (fun i wr => ∃ j : Nat, j ≤ l.length ∧ i = .int .i64 j ∧ Hid ((l.take j).all recOk = true) ∧ Keeps w wr) (fun i _ => l.length - (intOf i).toNat)
  case atStart => exact ⟨0, by omega, rfl, by simp [Hid], Keeps.refl _⟩
  case round =>
    obtain ⟨j, hj, rfl, HA, K⟩ := hrel
    have hr2 := hr.keeps K
    by_cases hlt : j < l.length
    · have i2 : (j : Int) < (l.length : Int) := by omega
      have i0 : (0 : Int) ≤ (j : Int) := by omega
      obtain ⟨b, off, rfl, _, _⟩ := hr2.parts (by rw [List.length_map]; omega)
      obtain ⟨c0, c1, c2, c3, c4⟩ := row5 hr2 hlt
      have hx := HB.out _ (List.getElem_mem hlt)
      have HS := hide (all_take (f := recOk) hlt)
      have HN := hide (all_no (f := recOk) hlt)
      have HC := hide (fun W => refrcheck_any l[j] W hx.1 hx.2)
      generalize hoo : off + j * 5 = o at *
      generalize l[j] = x at *
      clear hr2 hr hx
      unfold recV at HC
      cases hk : recOk x
      · rw [hk] at HC
        have HE : Hid (R = false) := by rw [Hid, HR.out, HN.out hk, Bool.and_false]
        clear HN HS
        go_wp2_with fail
        refine (HC.out _).mono ?_
        rintro e w5 ⟨rfl, k5⟩
        go_wp2
        go_ret
        exact ⟨ret_bool HE.out.symm, K.trans k5⟩
      · rw [hk, HA.out] at HS
        rw [hk] at HC
        clear HN HA
        go_wp2_with fail
        refine (HC.out _).mono ?_
        rintro e w5 ⟨rfl, k5⟩
        go_wp2_with fail
        go_roundw
        case rel => exact ⟨j + 1, by omega, by go_num, HS.out, K.trans k5⟩
        case measure => simp [intOf]; omega
    · obtain rfl : j = l.length := by omega
      rw [List.take_length] at HA
      have HE : Hid (R = N0) := by rw [Hid, HR.out, HA.out, Bool.and_true]
      go_wp2_with fail
      refine (H0.out _).mono ?_
      rintro e w5 ⟨rfl, hw⟩
      subst hw
      go_wp2
      go_ret
      exact ⟨ret_bool HE.out.symm, K⟩

set_option maxHeartbeats 4000000 in
theorem refBase_any (v : Value) (m : Ms) (w : World) (h : MsAt w v m) :
    Calls Try.prog 39 #[v] w fun e w' => e = .returned (.string (baseS m)) ∧ Keeps w w' := by
  obtain ⟨vq, va, vn, vr, rfl, rq, _, _, _⟩ := h
  have B := hide (Blk.made w #[.int .i64 m.id, .int .i64 m.bits, vq, va, vn, vr] 26)
  have K := hide ((Keeps.refl w).alloc (.cells #[.int .i64 m.id, .int .i64 m.bits, vq, va, vn, vr] 26))
  replace rq := hide (rq.keeps K.out)
  have HB := hide (show baseS m = match m.qs with | [] => ⟨#[0]⟩ | q :: _ => q.n from rfl)
  generalize baseS m = R at *
  obtain ⟨a, cap, hv⟩ := rq.out.len
  rw [List.length_map] at hv
  subst hv
  have hmq : m.qs = [] ∨ ∃ q qs, m.qs = q :: qs := by
    cases m.qs with
    | nil => exact .inl rfl
    | cons q qs => exact .inr ⟨q, qs, rfl⟩
  rcases hmq with hq | ⟨q, qs, hq⟩
  · have HE : Hid (R = ⟨#[0]⟩) := by rw [Hid, HB.out, hq]
    rw [hq] at B K
    rw [hq]
    simp only [List.length_nil] at B K ⊢
    clear rq HB
    go_enter Try.func39, Try.ntmps39
    go_upto_region 1 with fail
    generalize w.alloc (.cells #[.int .i64 m.id, .int .i64 m.bits, .slice a 0 cap, va, vn, vr] 26) = W at *
    generalize w.heap.size = G at *
    have t2 := B.out.cell 2
    simp only [List.getElem?_toArray, List.getElem?_cons_zero, List.getElem?_cons_succ] at t2
    go_wp2_with fail
    go_ret
    exact ⟨ret_str HE.out.symm, K.out⟩
  · have HE : Hid (R = q.n) := by rw [Hid, HB.out, hq]
    have hl : 0 < m.qs.length := by rw [hq]; simp
    obtain ⟨b, off, rfl, hb0, _⟩ := rq.out.parts (by rw [List.length_map]; exact hl)
    obtain ⟨c0, c1, c2⟩ := row3 rq.out hl
    have hq0 : m.qs[0] = q := by simp [hq]
    rw [hq0] at c0
    simp only [Nat.zero_mul, Nat.add_zero] at c0
    have hlp : decide ((0 : Int) < (m.qs.length : Int)) = true := decide_eq_true (by omega)
    have hlp2 : (0 : Int) < (m.qs.length : Int) := by omega
    have hlp3 : ¬ m.qs = [] := by rw [hq]; simp
    clear HB c1 c2 hq0 rq
    replace hq := hide hq
    go_enter Try.func39, Try.ntmps39
    go_upto_region 1 with fail
    generalize w.alloc (.cells #[.int .i64 m.id, .int .i64 m.bits, .slice (some ⟨b, off, none⟩) m.qs.length cap, va, vn, vr] 26) = W at *
    generalize w.heap.size = G at *
    have t2 := B.out.cell 2
    simp only [List.getElem?_toArray, List.getElem?_cons_zero, List.getElem?_cons_succ] at t2
    go_wp2_with fail
    go_ret
    exact ⟨ret_str HE.out.symm, K.out⟩
end Go.Proofs.Ytcohceggooockaa
