/- What Check of layer 8 answers. No condition. -/
import Derived.Test.YtcohceggooockaaMsgW4
namespace Go.Proofs.Ytcohceggooockaa
open Go.RowKit

theorem row3 {w : World} {b off n cap : Nat} {qs : List Qn} (h : ReadRow w (.slice (some ⟨b, off, none⟩) n cap) 3 (qs.map qnL)) {j : Nat} (hj : j < qs.length) :
    w.cell? ⟨b, off + j * 3, none⟩ = some (.string qs[j].n) ∧ w.cell? ⟨b, off + j * 3 + 1, none⟩ = some (.int .i64 qs[j].t) ∧ w.cell? ⟨b, off + j * 3 + 2, none⟩ = some (.int .i64 qs[j].c) := by
  obtain ⟨b', off', hb, _, hc⟩ := h.parts (by rw [List.length_map]; omega)
  simp only [Option.some.injEq, Addr.mk.injEq, and_true] at hb
  obtain ⟨rfl, rfl⟩ := hb
  have hj' : j < (qs.map qnL).length := by simpa using hj
  have e : ∀ k, k < 3 → w.cell? ⟨b, off + j * 3 + k, none⟩ = (qnL qs[j])[k]? := fun k hk => by rw [hc j hj' k hk]; simp
  exact ⟨e 0 (by omega), e 1 (by omega), e 2 (by omega)⟩
theorem row5 {w : World} {b off n cap : Nat} {rs : List Rec} (h : ReadRow w (.slice (some ⟨b, off, none⟩) n cap) 5 (rs.map recL8)) {j : Nat} (hj : j < rs.length) :
    w.cell? ⟨b, off + j * 5, none⟩ = some (.string rs[j].n) ∧ w.cell? ⟨b, off + j * 5 + 1, none⟩ = some (.int .i64 rs[j].t) ∧ w.cell? ⟨b, off + j * 5 + 2, none⟩ = some (.int .i64 rs[j].c) ∧ w.cell? ⟨b, off + j * 5 + 3, none⟩ = some (.int .i64 rs[j].l) ∧ w.cell? ⟨b, off + j * 5 + 4, none⟩ = some (.string rs[j].d) := by
  obtain ⟨b', off', hb, _, hc⟩ := h.parts (by rw [List.length_map]; omega)
  simp only [Option.some.injEq, Addr.mk.injEq, and_true] at hb
  obtain ⟨rfl, rfl⟩ := hb
  have hj' : j < (rs.map recL8).length := by simpa using hj
  have e : ∀ k, k < 5 → w.cell? ⟨b, off + j * 5 + k, none⟩ = (recL8 rs[j])[k]? := fun k hk => by rw [hc j hj' k hk]; simp
  exact ⟨e 0 (by omega), e 1 (by omega), e 2 (by omega), e 3 (by omega), e 4 (by omega)⟩

theorem isNum8_any (x : Int) (w : World) :
    Calls Try.prog 40 #[.int .i64 x] w fun e w' => e = .returned (.bool (num2 x)) ∧ w' = w := by
  by_cases h0 : 0 ≤ x
  · by_cases h1 : x ≤ 65535
    · go_enter Try.func40, Try.ntmps40
      go_wp2
      go_ret
      exact ⟨ret_bool (by simp [num2]; omega), rfl⟩
    · go_enter Try.func40, Try.ntmps40
      go_wp2
      go_ret
      exact ⟨ret_bool (by simp [num2]; omega), rfl⟩
  · go_enter Try.func40, Try.ntmps40
    go_wp2
    go_ret
    exact ⟨ret_bool (by simp [num2]; omega), rfl⟩

set_option maxHeartbeats 2000000 in
theorem checkq_any (q : Qn) (w : World) (hn : q.n.size ≤ maxLen) :
    Calls Try.prog 42 #[qnV q] w fun e w' => e = .returned (.bool (qnOk q)) ∧ Keeps w w' := by
  have H1 := hide (fun W => check_any q.n W hn)
  have HQ := hide (show qnOk q = (Nm.okL (bl q.n) && num2 q.t && num2 q.c) from rfl)
  have H2 := hide (isNum8_any q.t)
  have H3 := hide (isNum8_any q.c)
  generalize qnOk q = R at *
  unfold qnV
  cases h1 : Nm.okL (bl q.n)
  · rw [h1] at H1 HQ
    go_enter Try.func42, Try.ntmps42
    go_wp2_with (go_at_call 63; refine (H1.out _).mono ?_; rintro e w1 ⟨rfl, hw⟩; subst hw)
    go_ret
    exact ⟨ret_bool (by rw [HQ.out]; rfl), (Keeps.refl _).alloc _⟩
  · rw [h1] at H1 HQ
    cases h2 : num2 q.t
    · rw [h2] at H2 HQ
      go_enter Try.func42, Try.ntmps42
      go_wp2_with (first | (go_at_call 63; refine (H1.out _).mono ?_; rintro e w1 ⟨rfl, hw⟩; subst hw) | (go_at_call 40; refine (H2.out _).mono ?_; rintro e w1 ⟨rfl, hw⟩; subst hw))
      go_ret
      exact ⟨ret_bool (by rw [HQ.out]; rfl), (Keeps.refl _).alloc _⟩
    · rw [h2] at H2 HQ
      go_enter Try.func42, Try.ntmps42
      go_wp2_with fail
      refine (H1.out _).mono ?_
      rintro e w1 ⟨rfl, hw⟩
      subst hw
      go_wp2_with fail
      refine (H2.out _).mono ?_
      rintro e w1 ⟨rfl, hw⟩
      subst hw
      go_wp2_with fail
      refine (H3.out _).mono ?_
      rintro e w1 ⟨rfl, hw⟩
      subst hw
      go_wp2
      go_ret
      exact ⟨ret_bool (by rw [HQ.out]; simp), (Keeps.refl _).alloc _⟩

theorem all_take {α : Type} {l : List α} {f : α → Bool} {j : Nat} (hj : j < l.length) : (l.take (j + 1)).all f = ((l.take j).all f && f l[j]) := by
  rw [List.take_succ_eq_append_getElem hj, List.all_append]; simp only [List.all_cons, List.all_nil, Bool.and_true]
theorem all_no {α : Type} {l : List α} {f : α → Bool} {j : Nat} (hj : j < l.length) (h : f l[j] = false) : l.all f = false := by
  rw [Bool.eq_false_iff]
  intro ha
  rw [List.all_eq_true] at ha
  have := ha _ (List.getElem_mem hj)
  rw [h] at this
  cases this

set_option maxHeartbeats 4000000 in
set_option maxRecDepth 100000 in
theorem checkLQ_any (v : Value) (l : List Qn) (w : World) (hr : ReadRow w v 3 (l.map qnL)) (hl : l.length ≤ maxLen) (hb : ∀ x ∈ l, x.n.size ≤ maxLen) :
    Calls Try.prog 41 #[v, .func (.func 42) #[] #[]] w fun e w' => e = .returned (.bool (num2 l.length && l.all qnOk)) ∧ Keeps w w' := by
  have hl' := hl
  unfold maxLen at hl'
  have HB := hide hb
  clear hb
  obtain ⟨a, cap, hv⟩ := hr.len
  rw [List.length_map] at hv
  subst hv
  have H0 := hide (isNum8_any l.length)
  cases h0 : num2 l.length
  · rw [h0] at H0
    rw [Bool.false_and]
    go_enter Try.func41, Try.ntmps41
    go_wp2_with (go_at_call 40; refine (H0.out _).mono ?_; rintro e w1 ⟨rfl, hw⟩; subst hw)
    go_ret
    exact ⟨rfl, Keeps.refl _⟩
  · rw [h0] at H0
    rw [Bool.true_and]
    go_enter Try.func41, Try.ntmps41
    go_wp2_with (go_at_call 40; refine (H0.out _).mono ?_; rintro e w1 ⟨rfl, hw⟩; subst hw)
    go_loopw [13] (fun i wr => ∃ j : Nat, j ≤ l.length ∧ i = .int .i64 j ∧ Hid ((l.take j).all qnOk = true) ∧ Keeps w1 wr) (fun i _ => l.length - (intOf i).toNat)
    case atStart => exact ⟨0, by omega, rfl, by simp [Hid], Keeps.refl _⟩
    case round =>
      obtain ⟨j, hj, rfl, HA, K⟩ := hrel
      have hr2 := hr.keeps K
      by_cases hlt : j < l.length
      · have i2 : (j : Int) < (l.length : Int) := by omega
        have i0 : (0 : Int) ≤ (j : Int) := by omega
        obtain ⟨b, off, rfl, _, _⟩ := hr2.parts (by rw [List.length_map]; omega)
        obtain ⟨c0, c1, c2⟩ := row3 hr2 hlt
        have hx := HB.out _ (List.getElem_mem hlt)
        have HS := hide (all_take (f := qnOk) hlt)
        have HN := hide (all_no (f := qnOk) hlt)
        have HC := hide (fun W => checkq_any l[j] W hx)
        generalize hoo : off + j * 3 = o at *
        generalize l[j] = x at *
        clear hr2 hr hx
        unfold qnV at HC
        cases hk : qnOk x
        · rw [hk] at HC
          have HE := hide (HN.out hk)
          clear HN HS
          go_wp2_with (go_at_call 42; refine (HC.out _).mono ?_; rintro e w5 ⟨rfl, k5⟩)
          go_ret
          exact ⟨ret_bool HE.out.symm, K.trans ((Keeps.refl _).alloc _ |>.trans k5)⟩
        · rw [hk, HA.out] at HS
          rw [hk] at HC
          clear HN HA
          go_wp2_with (go_at_call 42; refine (HC.out _).mono ?_; rintro e w5 ⟨rfl, k5⟩)
          go_roundw
          case rel => exact ⟨j + 1, by omega, by go_num, HS.out, K.trans ((Keeps.refl _).alloc _ |>.trans k5)⟩
          case measure => simp [intOf]; omega
      · obtain rfl : j = l.length := by omega
        rw [List.take_length] at HA
        go_wp2
        go_ret
        exact ⟨ret_bool HA.out.symm, K⟩

set_option maxHeartbeats 4000000 in
set_option maxRecDepth 100000 in
theorem checkLR_any (v : Value) (l : List Rec) (w : World) (hr : ReadRow w v 5 (l.map recL8)) (hl : l.length ≤ maxLen) (hb : ∀ x ∈ l, x.n.size ≤ maxLen ∧ x.d.size ≤ maxLen) :
    Calls Try.prog 43 #[v, .func (.func 44) #[] #[]] w fun e w' => e = .returned (.bool (num2 l.length && l.all recOk)) ∧ Keeps w w' := by
  have hl' := hl
  unfold maxLen at hl'
  have HB := hide hb
  clear hb
  obtain ⟨a, cap, hv⟩ := hr.len
  rw [List.length_map] at hv
  subst hv
  have H0 := hide (isNum8_any l.length)
  cases h0 : num2 l.length
  · rw [h0] at H0
    rw [Bool.false_and]
    go_enter Try.func43, Try.ntmps43
    go_wp2_with (go_at_call 40; refine (H0.out _).mono ?_; rintro e w1 ⟨rfl, hw⟩; subst hw)
    go_ret
    exact ⟨rfl, Keeps.refl _⟩
  · rw [h0] at H0
    rw [Bool.true_and]
    go_enter Try.func43, Try.ntmps43
    go_wp2_with (go_at_call 40; refine (H0.out _).mono ?_; rintro e w1 ⟨rfl, hw⟩; subst hw)
    go_loopw [13] (fun i wr => ∃ j : Nat, j ≤ l.length ∧ i = .int .i64 j ∧ Hid ((l.take j).all recOk = true) ∧ Keeps w1 wr) (fun i _ => l.length - (intOf i).toNat)
    case atStart => exact ⟨0, by omega, rfl, by simp [Hid], Keeps.refl _⟩
    case round =>
      obtain ⟨j, hj, rfl, HA, K⟩ := hrel
      have hr2 := hr.keeps K
      by_cases hlt : j < l.length
      · have i2 : (j : Int) < (l.length : Int) := by omega
        have i0 : (0 : Int) ≤ (j : Int) := by omega
        obtain ⟨b, off, rfl, _, _⟩ := hr2.parts (by rw [List.length_map]; omega)
        obtain ⟨c0, c1, c2, c3, c4⟩ := row5 hr2 hlt
        have hx := HB.out _ (List.getElem_mem hlt)
        have HS := hide (all_take (f := recOk) hlt)
        have HN := hide (all_no (f := recOk) hlt)
        have HC := hide (fun W => rcheck_any l[j] W hx.1 hx.2)
        generalize hoo : off + j * 5 = o at *
        generalize l[j] = x at *
        clear hr2 hr hx
        unfold recV at HC
        cases hk : recOk x
        · rw [hk] at HC
          have HE := hide (HN.out hk)
          clear HN HS
          go_wp2_with (go_at_call 44; refine (HC.out _).mono ?_; rintro e w5 ⟨rfl, k5⟩)
          go_ret
          exact ⟨ret_bool HE.out.symm, K.trans ((Keeps.refl _).alloc _ |>.trans k5)⟩
        · rw [hk, HA.out] at HS
          rw [hk] at HC
          clear HN HA
          go_wp2_with (go_at_call 44; refine (HC.out _).mono ?_; rintro e w5 ⟨rfl, k5⟩)
          go_roundw
          case rel => exact ⟨j + 1, by omega, by go_num, HS.out, K.trans ((Keeps.refl _).alloc _ |>.trans k5)⟩
          case measure => simp [intOf]; omega
      · obtain rfl : j = l.length := by omega
        rw [List.take_length] at HA
        go_wp2
        go_ret
        exact ⟨ret_bool HA.out.symm, K⟩

/-- What a message that comes in is bounded by. -/
def RecsFine (l : List Rec) : Prop := l.length ≤ maxLen ∧ ∀ x ∈ l, x.n.size ≤ maxLen ∧ x.d.size ≤ maxLen
def MsFine (m : Ms) : Prop := (m.qs.length ≤ maxLen ∧ ∀ x ∈ m.qs, x.n.size ≤ maxLen) ∧ RecsFine m.an ∧ RecsFine m.ns ∧ RecsFine m.ar
def qsOk (l : List Qn) : Bool := num2 l.length && l.all qnOk
def rsOk (l : List Rec) : Bool := num2 l.length && l.all recOk
theorem msOk_parts (m : Ms) : msOk m = (num2 m.id && num2 m.bits && qsOk m.qs && rsOk m.an && rsOk m.ns && rsOk m.ar) := rfl

set_option maxHeartbeats 8000000 in
set_option maxRecDepth 100000 in
theorem Check_any (v : Value) (m : Ms) (w : World) (h : MsAt w v m) (hf : MsFine m) :
    Calls Try.prog 18 #[v] w fun e w' => e = .returned (.bool (msOk m)) ∧ Keeps w w' := by
  obtain ⟨vq, va, vn, vr, rfl, rq, ra, rn, rr⟩ := h
  obtain ⟨⟨q1, q2⟩, ⟨a1, a2⟩, ⟨n1, n2⟩, ⟨r1, r2⟩⟩ := hf
  have HM := hide (msOk_parts m)
  have HI := hide (isNum8_any m.id)
  have HJ := hide (isNum8_any m.bits)
  have HQ := hide (fun W (k : Keeps w W) => checkLQ_any vq m.qs W (rq.keeps k) q1 q2)
  have HA := hide (fun W (k : Keeps w W) => checkLR_any va m.an W (ra.keeps k) a1 a2)
  have HN := hide (fun W (k : Keeps w W) => checkLR_any vn m.ns W (rn.keeps k) n1 n2)
  have HR := hide (fun W (k : Keeps w W) => checkLR_any vr m.ar W (rr.keeps k) r1 r2)
  change Hid (∀ W, Keeps w W → Calls _ _ _ W fun e w' => e = .returned (.bool (qsOk m.qs)) ∧ Keeps W w') at HQ
  change Hid (∀ W, Keeps w W → Calls _ _ _ W fun e w' => e = .returned (.bool (rsOk m.an)) ∧ Keeps W w') at HA
  change Hid (∀ W, Keeps w W → Calls _ _ _ W fun e w' => e = .returned (.bool (rsOk m.ns)) ∧ Keeps W w') at HN
  change Hid (∀ W, Keeps w W → Calls _ _ _ W fun e w' => e = .returned (.bool (rsOk m.ar)) ∧ Keeps W w') at HR
  clear rq ra rn rr q1 q2 a1 a2 n1 n2 r1 r2
  have B := Blk.made w #[.int .i64 m.id, .int .i64 m.bits, vq, va, vn, vr] 26
  have K := (Keeps.refl w).alloc (.cells #[.int .i64 m.id, .int .i64 m.bits, vq, va, vn, vr] 26)
  generalize msOk m = R at *
  generalize m.id = I at *
  generalize m.bits = J at *
  generalize hXI : num2 I = XI at *
  generalize hXJ : num2 J = XJ at *
  generalize qsOk m.qs = XQ at *
  generalize rsOk m.an = XA at *
  generalize rsOk m.ns = XN at *
  generalize rsOk m.ar = XR at *
  clear hXI hXJ
  cases XI
  · go_enter Try.func18, Try.ntmps18
    go_wp2_with (go_at_call 40; refine (HI.out _).mono ?_; rintro e w1 ⟨rfl, hw⟩; subst hw)
    go_ret
    exact ⟨ret_bool (by rw [HM.out]; rfl), K⟩
  cases XJ
  · go_enter Try.func18, Try.ntmps18
    go_wp2_with fail
    refine (HI.out _).mono ?_
    rintro e w1 ⟨rfl, hw⟩
    subst hw
    go_wp2_with fail
    refine (HJ.out _).mono ?_
    rintro e w1 ⟨rfl, hw⟩
    subst hw
    go_wp2
    go_ret
    exact ⟨ret_bool (by rw [HM.out]; rfl), K⟩
  go_enter Try.func18, Try.ntmps18
  go_wp2_with fail
  refine (HI.out _).mono ?_
  rintro e w1 ⟨rfl, hw⟩
  subst hw
  go_wp2_with fail
  refine (HJ.out _).mono ?_
  rintro e w1 ⟨rfl, hw⟩
  subst hw
  go_wp2_with fail
  generalize w.alloc (.cells #[.int .i64 I, .int .i64 J, vq, va, vn, vr] 26) = W at *
  generalize w.heap.size = M at *
  refine (HQ.out _ K).mono ?_
  rintro e w1 ⟨rfl, k1⟩
  replace B := B.keeps k1
  replace K := K.trans k1
  clear k1 HQ HI HJ
  cases XQ
  · go_wp2
    go_ret
    exact ⟨ret_bool (by rw [HM.out]; rfl), K⟩
  go_wp2_with fail
  refine (sections_any M _).mono ?_
  rintro e w3 ⟨rfl, k3⟩
  replace B := B.keeps k3
  replace K := K.trans k3
  clear k3
  unfold secV
  replace B := hide B
  replace K := hide K
  go_wp2_with fail
  go_loopw [22] (fun i wr => ∃ (j : Nat), j ≤ 3 ∧ i = .int .i64 j ∧ Blk wr M #[.int .i64 I, .int .i64 J, vq, va, vn, vr] 26 ∧ Keeps w wr ∧ (1 ≤ j → XA = true) ∧ (2 ≤ j → XN = true) ∧ (3 ≤ j → XR = true)) (fun i _ => 3 - (intOf i).toNat)
  case atStart => exact ⟨0, by omega, rfl, B.out, K.out, fun h => by omega, fun h => by omega, fun h => by omega⟩
  case round =>
    clear B K
    obtain ⟨j, hj, rfl, B, K, g0, g1, g2⟩ := hrel
    rcases (show j = 0 ∨ j = 1 ∨ j = 2 ∨ j = 3 by omega) with rfl | rfl | rfl | rfl
    · have ri : ∀ w, (Instr.index 52 (.agg #[.pointer (some ⟨M, 3, none⟩), .pointer (some ⟨M, 4, none⟩), .pointer (some ⟨M, 5, none⟩)]) (.int .i64 0)).run Try.prog w = .ok (.pointer (some ⟨M, 3, none⟩)) w := fun w => by kernel_rfl
      obtain ⟨⟨x0, x1, x2, x3, x4, x5⟩, _, hx⟩ := B.six
      go_wp2_with fail
      refine (HA.out _ K).mono ?_
      rintro e w5 ⟨rfl, k5⟩
      replace B := B.keeps k5
      replace K := K.trans k5
      clear k5 x0 x1 x2 x3 x4 x5 hx ri g0 g1 g2
      cases XA
      · go_wp2
        go_ret
        exact ⟨ret_bool (by rw [HM.out]; simp), K⟩
      · replace B := hide B
        replace K := hide K
        go_wp2
        go_roundw
        case rel => exact ⟨1, by omega, rfl, B.out, K.out, (fun _ => by first | rfl | trivial), fun h => by omega, fun h => by omega⟩
        case measure => simp [intOf]
    · have ri : ∀ w, (Instr.index 52 (.agg #[.pointer (some ⟨M, 3, none⟩), .pointer (some ⟨M, 4, none⟩), .pointer (some ⟨M, 5, none⟩)]) (.int .i64 1)).run Try.prog w = .ok (.pointer (some ⟨M, 4, none⟩)) w := fun w => by kernel_rfl
      have z0 := g0 (by omega)
      subst z0
      obtain ⟨⟨x0, x1, x2, x3, x4, x5⟩, _, hx⟩ := B.six
      go_wp2_with fail
      refine (HN.out _ K).mono ?_
      rintro e w5 ⟨rfl, k5⟩
      replace B := B.keeps k5
      replace K := K.trans k5
      clear k5 x0 x1 x2 x3 x4 x5 hx ri g0 g1 g2
      cases XN
      · go_wp2
        go_ret
        exact ⟨ret_bool (by rw [HM.out]; simp), K⟩
      · replace B := hide B
        replace K := hide K
        go_wp2
        go_roundw
        case rel => exact ⟨2, by omega, rfl, B.out, K.out, (fun _ => by first | rfl | trivial), (fun _ => by first | rfl | trivial), fun h => by omega⟩
        case measure => simp [intOf]
    · have ri : ∀ w, (Instr.index 52 (.agg #[.pointer (some ⟨M, 3, none⟩), .pointer (some ⟨M, 4, none⟩), .pointer (some ⟨M, 5, none⟩)]) (.int .i64 2)).run Try.prog w = .ok (.pointer (some ⟨M, 5, none⟩)) w := fun w => by kernel_rfl
      have z0 := g0 (by omega)
      subst z0
      have z1 := g1 (by omega)
      subst z1
      obtain ⟨⟨x0, x1, x2, x3, x4, x5⟩, _, hx⟩ := B.six
      go_wp2_with fail
      refine (HR.out _ K).mono ?_
      rintro e w5 ⟨rfl, k5⟩
      replace B := B.keeps k5
      replace K := K.trans k5
      clear k5 x0 x1 x2 x3 x4 x5 hx ri g0 g1 g2
      cases XR
      · go_wp2
        go_ret
        exact ⟨ret_bool (by rw [HM.out]; simp), K⟩
      · replace B := hide B
        replace K := hide K
        go_wp2
        go_roundw
        case rel => exact ⟨3, by omega, rfl, B.out, K.out, (fun _ => by first | rfl | trivial), (fun _ => by first | rfl | trivial), (fun _ => by first | rfl | trivial)⟩
        case measure => simp [intOf]
    · have z0 := g0 (by omega)
      have z1 := g1 (by omega)
      have z2 := g2 (by omega)
      subst z0 z1 z2
      clear g0 g1 g2 B
      go_wp2
      go_ret
      exact ⟨ret_bool (by rw [HM.out]; rfl), K⟩
end Go.Proofs.Ytcohceggooockaa
