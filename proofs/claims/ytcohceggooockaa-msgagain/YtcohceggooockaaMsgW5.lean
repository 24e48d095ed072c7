/- What Decode of layer 8 answers. No condition. -/
import Derived.Test.YtcohceggooockaaMsgW4
namespace Go.Proofs.Ytcohceggooockaa
open Go.RowKit

set_option maxHeartbeats 8000000 in
set_option maxRecDepth 100000 in
theorem Decode_any (m : ByteArray) (w : World) (hm : m.size ≤ maxLen) :
    Calls Try.prog 10 #[.string m] w (DecEnd w (decM m)) := by
  have hm' := hm
  unfold maxLen at hm'
  have B1 := Blk.made w #[.int .i64 0, .int .i64 0, .slice none 0 0, .slice none 0 0, .slice none 0 0, .slice none 0 0] 26
  have K := (Keeps.refl w).alloc (.cells #[.int .i64 0, .int .i64 0, .slice none 0 0, .slice none 0 0, .slice none 0 0, .slice none 0 0] 26)
  by_cases hl : 65535 < (m.size : Int)
  · have HD := hide (show decM m = (noMs, 6) by rw [decM, if_pos (by omega)])
    obtain ⟨⟨c0, c1, c2, c3, c4, c5⟩, ⟨f0, f1, f2, f3, f4, f5⟩, hg⟩ := B1.six
    generalize decM m = D at *
    clear B1
    go_enter Try.func10, Try.ntmps10
    go_wp2_with fail
    generalize w.alloc (.cells #[.int .i64 0, .int .i64 0, .slice none 0 0, .slice none 0 0, .slice none 0 0, .slice none 0 0] 26) = W at *
    generalize hGG : w.heap.size = G at *
    have hle : w.heap.size ≤ G := Nat.le_of_eq hGG
    clear hGG
    go_wp2
    refine bodyPost_ret (v := .tuple #[noV, .int .i64 6]) (by simp [results, Try.results10, go_sem, noV, c0, c1, c2, c3, c4, c5]) rfl (DecEnd.bad HD.out ?_)
    exact K
  have H1 := hide (fun W => head_any m W hm)
  by_cases h12 : ¬ 12 ≤ m.size
  · have HD := hide (show decM m = (noMs, 2) by rw [decM, if_neg (by omega), if_pos (by omega)])
    unfold hdV at H1
    rw [decide_eq_false h12] at H1
    generalize decM m = D at *
    generalize hd m 0 = n0 at *
    generalize hd m 1 = n1 at *
    generalize hd m 2 = n2 at *
    generalize hd m 3 = n3 at *
    generalize hd m 4 = n4 at *
    generalize hd m 5 = n5 at *
    obtain ⟨X, hX⟩ : ∃ X, X = Value.bool false := ⟨_, rfl⟩
    rw [← hX] at H1
    replace hX := hide hX
    go_enter Try.func10, Try.ntmps10
    go_wp2_with fail
    refine (H1.out _).mono ?_
    rintro e w1 ⟨rfl, k1⟩
    replace K := (K.trans k1).alloc (.cells #[.int .i64 n0, .int .i64 n1, .int .i64 n2, .int .i64 n3, .int .i64 n4, .int .i64 n5] 45)
    replace B1 := (B1.keeps k1).alloc (.cells #[.int .i64 n0, .int .i64 n1, .int .i64 n2, .int .i64 n3, .int .i64 n4, .int .i64 n5] 45)
    replace K := hide K
    replace B1 := hide B1
    clear k1 h12 hm'
    generalize hGG : w.heap.size = G at *
    have hle : w.heap.size ≤ G := Nat.le_of_eq hGG
    clear hGG
    go_wp2_with fail
    generalize w1.alloc (.cells #[.int .i64 n0, .int .i64 n1, .int .i64 n2, .int .i64 n3, .int .i64 n4, .int .i64 n5] 45) = W at *
    obtain ⟨⟨c0, c1, c2, c3, c4, c5⟩, ⟨f0, f1, f2, f3, f4, f5⟩, hg⟩ := B1.out.six
    clear B1
    rw [hX.out]
    simp only [go_sem, Sem.run_pure, Result.andThen_ok, Bool.not_false]
    go_wp2
    refine bodyPost_ret (v := .tuple #[noV, .int .i64 2]) (by simp [results, Try.results10, go_sem, noV, c0, c1, c2, c3, c4, c5]) rfl (DecEnd.bad HD.out ?_)
    exact K.out.six G hle _ _ _ _ _ _
  replace h12 : 12 ≤ m.size := by omega
  obtain ⟨N2, N3, N4, N5, Q, A, N, R, ⟨e2, b2⟩, ⟨e3, b3⟩, ⟨e4, b4⟩, ⟨e5, b5⟩, hQ, hA, hN, hR, ⟨q1, q2, q3, q4⟩, d1, d2, d3, d4, d5, d6⟩ := decM_parts m h12 (by omega)
  rw [hdV_yes h12, headA_six, e2, e3, e4, e5] at H1
  have CQ := hide (fun W => listQ_any m 12 N2 W (by omega) (by omega) b2)
  rw [← hQ, show ((12 : Nat) : Int) = 12 from rfl] at CQ
  have CA := hide (fun W => listR_any m Q.next N3 W (by omega) (by omega) b3)
  rw [← hA] at CA
  have CN := hide (fun W => listR_any m A.next N4 W (by omega) (by omega) b4)
  rw [← hN] at CN
  have CR := hide (fun W => listR_any m N.next N5 W (by omega) (by omega) b5)
  rw [← hR] at CR
  clear hQ hA hN hR e2 e3 e4 e5
  replace d1 := hide d1
  replace d2 := hide d2
  replace d3 := hide d3
  replace d4 := hide d4
  replace d5 := hide d5
  replace d6 := hide d6
  generalize decM m = D at *
  generalize num m 0 = n0 at *
  generalize num m 1 = n1 at *
  go_enter Try.func10, Try.ntmps10
  go_wp2_with fail
  refine (H1.out _).mono ?_
  rintro e w1 ⟨rfl, k1⟩
  replace B1 := (B1.keeps k1).alloc (.cells #[.int .i64 n0, .int .i64 n1, .int .i64 N2, .int .i64 N3, .int .i64 N4, .int .i64 N5] 45)
  replace K := (K.trans k1).alloc (.cells #[.int .i64 n0, .int .i64 n1, .int .i64 N2, .int .i64 N3, .int .i64 N4, .int .i64 N5] 45)
  have B2 := Blk.made w1 #[.int .i64 n0, .int .i64 n1, .int .i64 N2, .int .i64 N3, .int .i64 N4, .int .i64 N5] 45
  clear k1 H1
  go_wp2_with fail
  generalize w1.alloc (.cells #[.int .i64 n0, .int .i64 n1, .int .i64 N2, .int .i64 N3, .int .i64 N4, .int .i64 N5] 45) = W at *
  generalize w1.heap.size = H at *
  generalize hGG : w.heap.size = G at *
  have hle : w.heap.size ≤ G := Nat.le_of_eq hGG
  clear hGG
  refine (CQ.out _).mono ?_
  rintro e w2 ⟨vq, rfl, rq, wq, k2⟩
  have hGW : G < W.heap.size := B1.lt
  replace B1 := B1.keeps k2
  replace B2 := B2.keeps k2
  replace K := K.trans k2
  clear k2 CQ
  by_cases he : Q.e = 0
  · rw [he]
    replace d2 := hide (d2.out he)
    replace d3 := hide (d3.out he)
    replace d4 := hide (d4.out he)
    replace d5 := hide (d5.out he)
    replace d6 := hide (d6.out he)
    clear d1 he
    obtain ⟨⟨x0, x1, _⟩, _, hx⟩ := B2.six
    have hGM : G < w2.heap.size := B1.lt
    have hHM : H < w2.heap.size := B2.lt
    have hMw0 : w.heap.size ≤ w2.heap.size := K.size
    have hoq0 : Off2 vq w2.heap.size G := fun b hb => by have := wq b hb; omega
    have B3 := Blk.made w2 #[.int .i64 n0, .int .i64 n1, vq, .slice none 0 0, .slice none 0 0, .slice none 0 0] 26
    replace B1 := B1.alloc (.cells #[.int .i64 n0, .int .i64 n1, vq, .slice none 0 0, .slice none 0 0, .slice none 0 0] 26)
    replace B2 := B2.alloc (.cells #[.int .i64 n0, .int .i64 n1, vq, .slice none 0 0, .slice none 0 0, .slice none 0 0] 26)
    replace K := K.alloc (.cells #[.int .i64 n0, .int .i64 n1, vq, .slice none 0 0, .slice none 0 0, .slice none 0 0] 26)
    replace rq := rq.keeps ((Keeps.refl w2).alloc (.cells #[.int .i64 n0, .int .i64 n1, vq, .slice none 0 0, .slice none 0 0, .slice none 0 0] 26))
    replace B1 := hide B1
    replace B3 := hide B3
    replace K := hide K
    replace rq := hide rq
    replace B2 := hide B2
    clear wq
    obtain ⟨aq, capq, hvq⟩ := rq.out.len
    subst hvq
    generalize hQL : (List.map qnL Q.xs).length = LQ at *
    replace hQL := hide hQL
    go_wp2_with fail
    generalize w2.alloc (.cells #[.int .i64 n0, .int .i64 n1, .slice aq LQ capq, .slice none 0 0, .slice none 0 0, .slice none 0 0] 26) = W3 at *
    generalize w2.heap.size = M at *
    refine (sections_any M _).mono ?_
    rintro e w3 ⟨rfl, k3⟩
    replace B1 := hide (B1.out.keeps k3)
    replace B2 := hide (B2.out.keeps k3)
    replace B3 := hide (B3.out.keeps k3)
    replace K := hide (K.out.trans k3)
    replace rq := hide (rq.out.keeps k3)
    have oq := hoq0
    clear k3 x0 x1 hx hoq0
    unfold secV
    go_wp2_with fail
    go_loopw [7, 43] (fun a i wr => ∃ (j : Nat) (va vn vr : Value), j ≤ 3 ∧ i = .int .i64 j ∧ a = .int .i64 (nxt4 Q.next A.next N.next R.next j) ∧ Blk wr M #[.int .i64 n0, .int .i64 n1, .slice aq LQ capq, va, vn, vr] 26 ∧ Blk wr H #[.int .i64 n0, .int .i64 n1, .int .i64 N2, .int .i64 N3, .int .i64 N4, .int .i64 N5] 45 ∧ Blk wr G #[.int .i64 0, .int .i64 0, .slice none 0 0, .slice none 0 0, .slice none 0 0, .slice none 0 0] 26 ∧ Keeps w wr ∧ ReadRow wr (.slice aq LQ capq) 3 (Q.xs.map qnL) ∧ (1 ≤ j → A.e = 0 ∧ ReadRow wr va 5 (A.xs.map recL8) ∧ Off2 va M G) ∧ (2 ≤ j → N.e = 0 ∧ ReadRow wr vn 5 (N.xs.map recL8) ∧ Off2 vn M G) ∧ (3 ≤ j → R.e = 0 ∧ ReadRow wr vr 5 (R.xs.map recL8) ∧ Off2 vr M G)) (fun _ i _ => 3 - (intOf i).toNat)
    case atStart => exact ⟨0, .slice none 0 0, .slice none 0 0, .slice none 0 0, by omega, rfl, rfl, B3.out, B2.out, B1.out, K.out, rq.out, fun h => by omega, fun h => by omega, fun h => by omega⟩
    case round =>
      clear B1 B2 B3 K rq
      obtain ⟨j, va, vn, vr, hj, rfl, rfl, B3, B2, B1, K, rq, g0, g1, g2⟩ := hrel
      rcases (show j = 0 ∨ j = 1 ∨ j = 2 ∨ j = 3 by omega) with rfl | rfl | rfl | rfl
      · have ri : ∀ w, (Instr.index 52 (.agg #[.pointer (some ⟨M, 3, none⟩), .pointer (some ⟨M, 4, none⟩), .pointer (some ⟨M, 5, none⟩)]) (.int .i64 0)).run Try.prog w = .ok (.pointer (some ⟨M, 3, none⟩)) w := fun w => by kernel_rfl
        obtain ⟨⟨x0, x1, x2, x3, x4, x5⟩, _, hx⟩ := B2.six
        have hMr : M < wr.heap.size := B3.lt
        have hGr : G < wr.heap.size := B1.lt
        rw [show nxt4 Q.next A.next N.next R.next 0 = Q.next from rfl]
        go_wp2_with fail
        refine (CA.out _).mono ?_
        rintro e w5 ⟨vl, rfl, rl, wl, k5⟩
        replace B1 := B1.keeps k5
        replace B2 := B2.keeps k5
        replace B3 := B3.keeps k5
        replace K := K.trans k5
        replace rq := rq.keeps k5
        have ol : Off2 vl M G := fun b hb => by have := wl b hb; omega
        clear x0 x1 x2 x3 x4 x5 hx ri wl k5 g0 g1 g2
        obtain ⟨al, capl, hvl⟩ := rl.len
        subst hvl
        generalize (List.map recL8 A.xs).length = LL at *
        have S3 : Hid (Blk (w5.setCell ⟨M, 3, none⟩ (.slice al LL capl)) M #[.int .i64 n0, .int .i64 n1, .slice aq LQ capq, .slice al LL capl, vn, vr] 26) := B3.set 3 (.slice al LL capl)
        have S1 := hide (B1.other (a := ⟨M, 3, none⟩) (by simp; omega) (.slice al LL capl))
        have S2 := hide (B2.other (a := ⟨M, 3, none⟩) (by simp; omega) (.slice al LL capl))
        have SQ := hide (rq.other (fun b hb => (oq b hb).1) 3 (.slice al LL capl))
        have SL := hide (rl.other (fun b hb => (ol b hb).1) 3 (.slice al LL capl))
        have SK := hide (K.setC ⟨M, 3, none⟩ hMw0 (.slice al LL capl))
        obtain ⟨⟨m0, m1, m2, m3, m4, m5⟩, ⟨p0, p1, p2, p3, p4, p5⟩, hm6⟩ := B3.six
        obtain ⟨⟨c0, c1, c2, c3, c4, c5⟩, ⟨f0, f1, f2, f3, f4, f5⟩, hg⟩ := B1.six
        have hGM2 : ¬ M = G := by omega
        have hGM3 : ¬ G = M := by omega
        clear B1 B2 B3 rq rl K
        by_cases he : A.e = 0
        · have HE := hide he
          rw [he]
          clear he
          go_wp2
          go_roundw
          case rel => have he := HE.out; exact ⟨1, (.slice al LL capl), vn, vr, by omega, rfl, rfl, S3.out, S2.out, S1.out, SK.out, SQ.out, fun _ => ⟨he, SL.out, ol⟩, fun h => by omega, fun h => by omega⟩
          case measure => simp [intOf]
        · have hne : ((A.e : Int) != 0) = true := by rw [bne_iff_ne]; omega
          have HD := hide (d2.out he)
          generalize A.e = E at *
          go_wp2
          refine bodyPost_ret (v := .tuple #[noV, .int .i64 E]) (by simp [results, Try.results10, go_sem, noV, c0, c1, c2, c3, c4, c5]) rfl (DecEnd.bad HD.out ?_)
          exact SK.out.six G hle _ _ _ _ _ _
      · have ri : ∀ w, (Instr.index 52 (.agg #[.pointer (some ⟨M, 3, none⟩), .pointer (some ⟨M, 4, none⟩), .pointer (some ⟨M, 5, none⟩)]) (.int .i64 1)).run Try.prog w = .ok (.pointer (some ⟨M, 4, none⟩)) w := fun w => by kernel_rfl
        obtain ⟨⟨x0, x1, x2, x3, x4, x5⟩, _, hx⟩ := B2.six
        have hMr : M < wr.heap.size := B3.lt
        have hGr : G < wr.heap.size := B1.lt
        rw [show nxt4 Q.next A.next N.next R.next 1 = A.next from rfl]
        go_wp2_with fail
        refine (CN.out _).mono ?_
        rintro e w5 ⟨vl, rfl, rl, wl, k5⟩
        replace B1 := B1.keeps k5
        replace B2 := B2.keeps k5
        replace B3 := B3.keeps k5
        replace K := K.trans k5
        replace rq := rq.keeps k5
        obtain ⟨z0, r0, o0⟩ := g0 (by omega)
        replace r0 := r0.keeps k5
        have ol : Off2 vl M G := fun b hb => by have := wl b hb; omega
        clear x0 x1 x2 x3 x4 x5 hx ri wl k5 g0 g1 g2
        obtain ⟨al, capl, hvl⟩ := rl.len
        subst hvl
        generalize (List.map recL8 N.xs).length = LL at *
        have S3 : Hid (Blk (w5.setCell ⟨M, 4, none⟩ (.slice al LL capl)) M #[.int .i64 n0, .int .i64 n1, .slice aq LQ capq, va, .slice al LL capl, vr] 26) := B3.set 4 (.slice al LL capl)
        have S1 := hide (B1.other (a := ⟨M, 4, none⟩) (by simp; omega) (.slice al LL capl))
        have S2 := hide (B2.other (a := ⟨M, 4, none⟩) (by simp; omega) (.slice al LL capl))
        have SQ := hide (rq.other (fun b hb => (oq b hb).1) 4 (.slice al LL capl))
        have SL := hide (rl.other (fun b hb => (ol b hb).1) 4 (.slice al LL capl))
        have SK := hide (K.setC ⟨M, 4, none⟩ hMw0 (.slice al LL capl))
        have T0 := hide (r0.other (fun b hb => (o0 b hb).1) 4 (.slice al LL capl))
        obtain ⟨⟨m0, m1, m2, m3, m4, m5⟩, ⟨p0, p1, p2, p3, p4, p5⟩, hm6⟩ := B3.six
        obtain ⟨⟨c0, c1, c2, c3, c4, c5⟩, ⟨f0, f1, f2, f3, f4, f5⟩, hg⟩ := B1.six
        have hGM2 : ¬ M = G := by omega
        have hGM3 : ¬ G = M := by omega
        clear B1 B2 B3 rq rl K
        by_cases he : N.e = 0
        · have HE := hide he
          rw [he]
          clear he
          go_wp2
          go_roundw
          case rel => have he := HE.out; exact ⟨2, va, (.slice al LL capl), vr, by omega, rfl, rfl, S3.out, S2.out, S1.out, SK.out, SQ.out, fun _ => ⟨z0, T0.out, o0⟩, fun _ => ⟨he, SL.out, ol⟩, fun h => by omega⟩
          case measure => simp [intOf]
        · have hne : ((N.e : Int) != 0) = true := by rw [bne_iff_ne]; omega
          have HD := hide (d3.out z0 he)
          generalize N.e = E at *
          go_wp2
          refine bodyPost_ret (v := .tuple #[noV, .int .i64 E]) (by simp [results, Try.results10, go_sem, noV, c0, c1, c2, c3, c4, c5]) rfl (DecEnd.bad HD.out ?_)
          exact SK.out.six G hle _ _ _ _ _ _
      · have ri : ∀ w, (Instr.index 52 (.agg #[.pointer (some ⟨M, 3, none⟩), .pointer (some ⟨M, 4, none⟩), .pointer (some ⟨M, 5, none⟩)]) (.int .i64 2)).run Try.prog w = .ok (.pointer (some ⟨M, 5, none⟩)) w := fun w => by kernel_rfl
        obtain ⟨⟨x0, x1, x2, x3, x4, x5⟩, _, hx⟩ := B2.six
        have hMr : M < wr.heap.size := B3.lt
        have hGr : G < wr.heap.size := B1.lt
        rw [show nxt4 Q.next A.next N.next R.next 2 = N.next from rfl]
        go_wp2_with fail
        refine (CR.out _).mono ?_
        rintro e w5 ⟨vl, rfl, rl, wl, k5⟩
        replace B1 := B1.keeps k5
        replace B2 := B2.keeps k5
        replace B3 := B3.keeps k5
        replace K := K.trans k5
        replace rq := rq.keeps k5
        obtain ⟨z0, r0, o0⟩ := g0 (by omega)
        replace r0 := r0.keeps k5
        obtain ⟨z1, r1, o1⟩ := g1 (by omega)
        replace r1 := r1.keeps k5
        have ol : Off2 vl M G := fun b hb => by have := wl b hb; omega
        clear x0 x1 x2 x3 x4 x5 hx ri wl k5 g0 g1 g2
        obtain ⟨al, capl, hvl⟩ := rl.len
        subst hvl
        generalize (List.map recL8 R.xs).length = LL at *
        have S3 : Hid (Blk (w5.setCell ⟨M, 5, none⟩ (.slice al LL capl)) M #[.int .i64 n0, .int .i64 n1, .slice aq LQ capq, va, vn, .slice al LL capl] 26) := B3.set 5 (.slice al LL capl)
        have S1 := hide (B1.other (a := ⟨M, 5, none⟩) (by simp; omega) (.slice al LL capl))
        have S2 := hide (B2.other (a := ⟨M, 5, none⟩) (by simp; omega) (.slice al LL capl))
        have SQ := hide (rq.other (fun b hb => (oq b hb).1) 5 (.slice al LL capl))
        have SL := hide (rl.other (fun b hb => (ol b hb).1) 5 (.slice al LL capl))
        have SK := hide (K.setC ⟨M, 5, none⟩ hMw0 (.slice al LL capl))
        have T0 := hide (r0.other (fun b hb => (o0 b hb).1) 5 (.slice al LL capl))
        have T1 := hide (r1.other (fun b hb => (o1 b hb).1) 5 (.slice al LL capl))
        obtain ⟨⟨m0, m1, m2, m3, m4, m5⟩, ⟨p0, p1, p2, p3, p4, p5⟩, hm6⟩ := B3.six
        obtain ⟨⟨c0, c1, c2, c3, c4, c5⟩, ⟨f0, f1, f2, f3, f4, f5⟩, hg⟩ := B1.six
        have hGM2 : ¬ M = G := by omega
        have hGM3 : ¬ G = M := by omega
        clear B1 B2 B3 rq rl K
        by_cases he : R.e = 0
        · have HE := hide he
          rw [he]
          clear he
          go_wp2
          go_roundw
          case rel => have he := HE.out; exact ⟨3, va, vn, (.slice al LL capl), by omega, rfl, rfl, S3.out, S2.out, S1.out, SK.out, SQ.out, fun _ => ⟨z0, T0.out, o0⟩, fun _ => ⟨z1, T1.out, o1⟩, fun _ => ⟨he, SL.out, ol⟩⟩
          case measure => simp [intOf]
        · have hne : ((R.e : Int) != 0) = true := by rw [bne_iff_ne]; omega
          have HD := hide (d4.out z0 z1 he)
          generalize R.e = E at *
          go_wp2
          refine bodyPost_ret (v := .tuple #[noV, .int .i64 E]) (by simp [results, Try.results10, go_sem, noV, c0, c1, c2, c3, c4, c5]) rfl (DecEnd.bad HD.out ?_)
          exact SK.out.six G hle _ _ _ _ _ _
      · obtain ⟨z0, r0, o0⟩ := g0 (by omega)
        obtain ⟨z1, r1, o1⟩ := g1 (by omega)
        obtain ⟨z2, r2, o2⟩ := g2 (by omega)
        clear g0 g1 g2
        rw [show nxt4 Q.next A.next N.next R.next 3 = R.next from rfl]
        obtain ⟨a0, k0, h0⟩ := r0.len
        obtain ⟨a1, k1, h1⟩ := r1.len
        obtain ⟨a2, k2, h2⟩ := r2.len
        subst h0 h1 h2
        have HD5 := hide (d5.out z0 z1 z2)
        have HD6 := hide (d6.out z0 z1 z2)
        generalize (List.map recL8 A.xs).length = L0 at *
        generalize (List.map recL8 N.xs).length = L1 at *
        generalize (List.map recL8 R.xs).length = L2 at *
        obtain ⟨⟨m0, m1, m2, m3, m4, m5⟩, ⟨p0, p1, p2, p3, p4, p5⟩, hm6⟩ := B3.six
        obtain ⟨⟨c0, c1, c2, c3, c4, c5⟩, ⟨f0, f1, f2, f3, f4, f5⟩, hg⟩ := B1.six
        clear B1 B2 B3 d2 d3 d4 d5 d6 z0 z1 z2
        replace K := hide K
        replace rq := hide rq
        replace r0 := hide r0
        replace r1 := hide r1
        replace r2 := hide r2
        by_cases he : R.next = m.size
        · have hne : ((R.next : Int) != (m.size : Int)) = false := by rw [he]; simp
          have HD := hide (HD6.out he)
          generalize R.next = nx at *
          clear HD5 HD6 he
          go_wp2
          refine bodyPost_ret (v := .tuple #[.agg #[.int .i64 n0, .int .i64 n1, .slice aq LQ capq, .slice a0 L0 k0, .slice a1 L1 k1, .slice a2 L2 k2], .int .i64 0]) (by simp [results, Try.results10, go_sem, c0, c1, c2, c3, c4, c5]) rfl (DecEnd.good HD.out ?_ ?_ ?_ ?_ ?_)
          · exact rq.out.six (fun b hb => (oq b hb).2) _ _ _ _ _ _
          · exact r0.out.six (fun b hb => (o0 b hb).2) _ _ _ _ _ _
          · exact r1.out.six (fun b hb => (o1 b hb).2) _ _ _ _ _ _
          · exact r2.out.six (fun b hb => (o2 b hb).2) _ _ _ _ _ _
          · exact K.out.six G hle _ _ _ _ _ _
        · have hne : ((R.next : Int) != (m.size : Int)) = true := by rw [bne_iff_ne]; omega
          have HD := hide (HD5.out he)
          generalize R.next = nx at *
          clear HD5 HD6 he
          go_wp2
          refine bodyPost_ret (v := .tuple #[noV, .int .i64 5]) (by simp [results, Try.results10, go_sem, noV, c0, c1, c2, c3, c4, c5]) rfl (DecEnd.bad HD.out ?_)
          exact K.out.six G hle _ _ _ _ _ _
  · have hne : ((Q.e : Int) != 0) = true := by rw [bne_iff_ne]; omega
    have HD := hide (d1.out he)
    clear d1 d2 d3 d4 d5 d6 he
    obtain ⟨⟨c0, c1, c2, c3, c4, c5⟩, ⟨f0, f1, f2, f3, f4, f5⟩, hg⟩ := B1.six
    clear B1 B2
    generalize Q.e = E at *
    go_wp2
    refine bodyPost_ret (v := .tuple #[noV, .int .i64 E]) (by simp [results, Try.results10, go_sem, noV, c0, c1, c2, c3, c4, c5]) rfl (DecEnd.bad HD.out ?_)
    exact K.six G hle _ _ _ _ _ _
end Go.Proofs.Ytcohceggooockaa
