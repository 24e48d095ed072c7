/- What the document's Decode of layer 8 answers. No condition. -/
import Derived.Test.YtmhipcphgbcggaaMsgW4
namespace Go.Proofs.Ytmhipcphgbcggaa
open Go.RowKit

def mc (m : ByteArray) (j k : Nat) : Value := .int .i64 (if k < j then num m (2 + k) else 0)
def manyA (m : ByteArray) (j : Nat) : Array Value := #[mc m j 0, mc m j 1, mc m j 2, mc m j 3]
theorem manyA_zero (m : ByteArray) : manyA m 0 = #[.int .i64 0, .int .i64 0, .int .i64 0, .int .i64 0] := rfl
theorem manyA_four (m : ByteArray) : manyA m 4 = #[.int .i64 (num m 2), .int .i64 (num m 3), .int .i64 (num m 4), .int .i64 (num m 5)] := rfl
theorem manyA_step (m : ByteArray) (j : Nat) (hj : j < 4) : (manyA m j).setIfInBounds j (.int .i64 (num m (2 + j))) = manyA m (j + 1) := by
  rcases (show j = 0 ∨ j = 1 ∨ j = 2 ∨ j = 3 by omega) with rfl | rfl | rfl | rfl <;> rfl
theorem Blk.four {w : World} {G : Nat} {p q r s : Value} {ty : TypeId} (h : Blk w G #[p, q, r, s] ty) :
    (w.cell? ⟨G, 0, none⟩ = some p ∧ w.cell? ⟨G, 1, none⟩ = some q ∧ w.cell? ⟨G, 2, none⟩ = some r ∧ w.cell? ⟨G, 3, none⟩ = some s) ∧ G < w.heap.size :=
  ⟨⟨h.cell 0, h.cell 1, h.cell 2, h.cell 3⟩, h.lt⟩

set_option maxHeartbeats 8000000 in
set_option maxRecDepth 100000 in
theorem refDecode_any (m : ByteArray) (w : World) (hm : m.size ≤ maxLen) :
    Calls Try.prog 11 #[.string m] w (DecEnd w (decM m)) := by
  have hm' := hm
  unfold maxLen at hm'
  have B1 := Blk.made w #[.int .i64 0, .int .i64 0, .slice none 0 0, .slice none 0 0, .slice none 0 0, .slice none 0 0] 26
  have K := (Keeps.refl w).alloc (.cells #[.int .i64 0, .int .i64 0, .slice none 0 0, .slice none 0 0, .slice none 0 0, .slice none 0 0] 26)
  by_cases hl : 65535 < (m.size : Int)
  · have HD := hide (show decM m = (noMs, 6) by rw [decM, if_pos (by omega)])
    obtain ⟨⟨c0, c1, c2, c3, c4, c5⟩, ⟨f0, f1, f2, f3, f4, f5⟩, hg⟩ := B1.six
    generalize decM m = D at *
    clear B1
    go_enter Try.func11, Try.ntmps11
    go_wp2_with fail
    refine bodyPost_ret (v := .tuple #[noV, .int .i64 6]) (by simp [results, Try.results11, go_sem, noV, c0, c1, c2, c3, c4, c5]) rfl (DecEnd.bad HD.out ?_)
    exact K
  have H1 := hide (fun W => refHead_any m W hm)
  by_cases h12 : ¬ 12 ≤ m.size
  · have HD := hide (show decM m = (noMs, 2) by rw [decM, if_neg (by omega), if_pos (by omega)])
    unfold headV at H1
    rw [decide_eq_false h12] at H1
    obtain ⟨⟨c0, c1, c2, c3, c4, c5⟩, ⟨f0, f1, f2, f3, f4, f5⟩, hg⟩ := B1.six
    generalize decM m = D at *
    clear B1
    generalize hd m 0 = n0 at *
    generalize hd m 1 = n1 at *
    go_enter Try.func11, Try.ntmps11
    go_wp2_with fail
    refine (H1.out _).mono ?_
    rintro e w1 ⟨rfl, hw⟩
    subst hw
    go_wp2
    refine bodyPost_ret (v := .tuple #[noV, .int .i64 2]) (by simp [results, Try.results11, go_sem, noV, c0, c1, c2, c3, c4, c5]) rfl (DecEnd.bad HD.out ?_)
    exact K
  replace h12 : 12 ≤ m.size := by omega
  obtain ⟨N2, N3, N4, N5, Q, A, N, R, ⟨e2, b2⟩, ⟨e3, b3⟩, ⟨e4, b4⟩, ⟨e5, b5⟩, hQ, hA, hN, hR, ⟨q1, q2, q3, q4⟩, d1, d2, d3, d4, d5, d6⟩ := decM_parts m h12 (by omega)
  unfold headV at H1
  rw [decide_eq_true h12, hd_yes h12, hd_yes h12] at H1
  have CQ := hide (fun W => questions_any m 12 N2 W (by omega) (by omega) b2)
  rw [← hQ, show ((12 : Nat) : Int) = 12 from rfl] at CQ
  have CA := hide (fun W => section_any m Q.next N3 W (by omega) (by omega) b3)
  rw [← hA] at CA
  have CN := hide (fun W => section_any m A.next N4 W (by omega) (by omega) b4)
  rw [← hN] at CN
  have CR := hide (fun W => section_any m N.next N5 W (by omega) (by omega) b5)
  rw [← hR] at CR
  have HM4 := hide (manyA_four m)
  rw [e2, e3, e4, e5] at HM4
  clear hQ hA hN hR e2 e3 e4 e5
  replace d1 := hide d1
  replace d2 := hide d2
  replace d3 := hide d3
  replace d4 := hide d4
  replace d5 := hide d5
  replace d6 := hide d6
  generalize decM m = D at *
  generalize num m 0 = n0 at *
  generalize num m 1 = n1 at *
  have B2 := Blk.made (w.alloc (.cells #[.int .i64 0, .int .i64 0, .slice none 0 0, .slice none 0 0, .slice none 0 0, .slice none 0 0] 26)) (manyA m 0) 58
  rw [show (w.alloc (.cells #[.int .i64 0, .int .i64 0, .slice none 0 0, .slice none 0 0, .slice none 0 0, .slice none 0 0] 26)).heap.size = w.heap.size + 1 by simp] at B2
  replace B1 := B1.alloc (.cells (manyA m 0) 58)
  replace K := K.alloc (.cells (manyA m 0) 58)
  rw [manyA_zero] at B1 B2 K
  replace B1 := hide B1
  replace B2 := hide B2
  replace K := hide K
  go_enter Try.func11, Try.ntmps11
  go_wp2_with fail
  refine (H1.out _).mono ?_
  rintro e w1 ⟨rfl, hw⟩
  subst hw
  go_wp2_with fail
  generalize (w.alloc (.cells #[.int .i64 0, .int .i64 0, .slice none 0 0, .slice none 0 0, .slice none 0 0, .slice none 0 0] 26)).alloc (.cells #[.int .i64 0, .int .i64 0, .int .i64 0, .int .i64 0] 58) = W at *
  generalize hGG : w.heap.size = G at *
  have hle : w.heap.size ≤ G := Nat.le_of_eq hGG
  clear hGG
  go_loopw [8] (fun i wr => ∃ j : Nat, j ≤ 4 ∧ i = .int .i64 j ∧ Blk wr (G + 1) (manyA m j) 58 ∧ Blk wr G #[.int .i64 0, .int .i64 0, .slice none 0 0, .slice none 0 0, .slice none 0 0, .slice none 0 0] 26 ∧ Keeps w wr) (fun i _ => 4 - (intOf i).toNat)
  case atStart => exact ⟨0, by omega, rfl, B2.out, B1.out, K.out⟩
  case round =>
    clear B1 B2 K
    obtain ⟨j, hj, rfl, B2, B1, K⟩ := hrel
    by_cases hlt : j < 4
    · have g2 : Oct.getN m (4 + 2 * (j : Int)) 2 = num m (2 + j) := by rw [num]; congr 1; omega
      have hc : wr.cell? ⟨G + 1, j, none⟩ = some (mc m j j) := by
        rw [B2.cell j]
        rcases (show j = 0 ∨ j = 1 ∨ j = 2 ∨ j = 3 by omega) with rfl | rfl | rfl | rfl <;> rfl
      have hf := B2.frozen j
      have S2 := B2.set j (.int .i64 (num m (2 + j)))
      rw [manyA_step m j hlt] at S2
      replace S2 := hide S2
      have S1 := hide (B1.other (a := ⟨G + 1, j, none⟩) (by simp) (.int .i64 (num m (2 + j))))
      have SK := hide (K.setC ⟨G + 1, j, none⟩ (by simp; omega) (.int .i64 (num m (2 + j))))
      clear B1 B2 K HM4
      generalize num m (2 + j) = X at *
      generalize mc m j j = Y at *
      go_wp2_with (go_at_call 29; refine (refget_any _ _ _ _ hm (by omega)).mono ?_; rintro e w1 ⟨rfl, hw1⟩; subst hw1)
      go_roundw
      case rel => exact ⟨j + 1, by omega, by go_num, S2.out, S1.out, SK.out⟩
      case measure => simp [intOf]; omega
    · obtain rfl : j = 4 := by omega
      rw [HM4.out] at B2
      clear HM4
      obtain ⟨⟨x0, x1, x2, x3⟩, hx⟩ := B2.four
      go_wp2_with fail
      refine (CQ.out _).mono ?_
      rintro e w2 ⟨vq, rfl, rq, wq, k2⟩
      have hG0 : G < wr.heap.size := B1.lt
      replace B1 := B1.keeps k2
      replace B2 := B2.keeps k2
      replace K := K.trans k2
      have ovq : ∀ b, vq.ownBlock = some b → b ≠ G := fun b hb => by have := (wq b hb).1; omega
      clear k2 wq x0 x1 x2 x3 hx CQ
      obtain ⟨a2, c2', hv2⟩ := rq.len
      subst hv2
      generalize (List.map qnL Q.xs).length = L2 at *
      by_cases he2 : Q.e = 0
      · rw [he2]
        replace d2 := hide (d2.out he2)
        replace d3 := hide (d3.out he2)
        replace d4 := hide (d4.out he2)
        replace d5 := hide (d5.out he2)
        replace d6 := hide (d6.out he2)
        clear d1 he2
        obtain ⟨⟨x0, x1, x2, x3⟩, hx⟩ := B2.four
        have hG1 : G < w2.heap.size := B1.lt
        go_wp2_with fail
        refine (CA.out _).mono ?_
        rintro e w3 ⟨va, rfl, ra, wa, k3⟩
        replace B1 := B1.keeps k3
        replace B2 := B2.keeps k3
        replace K := K.trans k3
        replace rq := rq.keeps k3
        have ova : ∀ b, va.ownBlock = some b → b ≠ G := fun b hb => by have := (wa b hb).1; omega
        clear k3 wa x0 x1 x2 x3 hx CA
        obtain ⟨a3, c3', hv3⟩ := ra.len
        subst hv3
        generalize (List.map recL8 A.xs).length = L3 at *
        by_cases he3 : A.e = 0
        · rw [he3]
          replace d3 := hide (d3.out he3)
          replace d4 := hide (d4.out he3)
          replace d5 := hide (d5.out he3)
          replace d6 := hide (d6.out he3)
          clear d2 he3
          obtain ⟨⟨x0, x1, x2, x3⟩, hx⟩ := B2.four
          have hG2 : G < w3.heap.size := B1.lt
          go_wp2_with fail
          refine (CN.out _).mono ?_
          rintro e w4 ⟨vn, rfl, rn, wn, k4⟩
          replace B1 := B1.keeps k4
          replace B2 := B2.keeps k4
          replace K := K.trans k4
          replace rq := rq.keeps k4
          replace ra := ra.keeps k4
          have ovn : ∀ b, vn.ownBlock = some b → b ≠ G := fun b hb => by have := (wn b hb).1; omega
          clear k4 wn x0 x1 x2 x3 hx CN
          obtain ⟨a4, c4', hv4⟩ := rn.len
          subst hv4
          generalize (List.map recL8 N.xs).length = L4 at *
          by_cases he4 : N.e = 0
          · rw [he4]
            replace d4 := hide (d4.out he4)
            replace d5 := hide (d5.out he4)
            replace d6 := hide (d6.out he4)
            clear d3 he4
            obtain ⟨⟨x0, x1, x2, x3⟩, hx⟩ := B2.four
            have hG3 : G < w4.heap.size := B1.lt
            go_wp2_with fail
            refine (CR.out _).mono ?_
            rintro e w5 ⟨vr, rfl, rr, wr, k5⟩
            replace B1 := B1.keeps k5
            replace B2 := B2.keeps k5
            replace K := K.trans k5
            replace rq := rq.keeps k5
            replace ra := ra.keeps k5
            replace rn := rn.keeps k5
            have ovr : ∀ b, vr.ownBlock = some b → b ≠ G := fun b hb => by have := (wr b hb).1; omega
            clear k5 wr x0 x1 x2 x3 hx CR
            obtain ⟨a5, c5', hv5⟩ := rr.len
            subst hv5
            generalize (List.map recL8 R.xs).length = L5 at *
            by_cases he5 : R.e = 0
            · rw [he5]
              replace d5 := hide (d5.out he5)
              replace d6 := hide (d6.out he5)
              clear d4 he5
              obtain ⟨⟨x0, x1, x2, x3⟩, hx⟩ := B2.four
              clear x0 x1 x2 x3 hx B2
              obtain ⟨⟨c0, c1, c2, c3, c4, c5⟩, ⟨f0, f1, f2, f3, f4, f5⟩, hg⟩ := B1.six
              clear B1
              replace K := hide K
              replace rq := hide rq
              replace ra := hide ra
              replace rn := hide rn
              replace rr := hide rr
              by_cases he : R.next = m.size
              · have hne : ((R.next : Int) != (m.size : Int)) = false := by rw [he]; simp
                have HD := hide (d6.out he)
                generalize R.next = nx at *
                clear d5 d6 he
                go_wp2
                refine bodyPost_ret (v := .tuple #[.agg #[.int .i64 n0, .int .i64 n1, .slice a2 L2 c2', .slice a3 L3 c3', .slice a4 L4 c4', .slice a5 L5 c5'], .int .i64 0]) (by simp [results, Try.results11, go_sem, c0, c1, c2, c3, c4, c5]) rfl (DecEnd.good HD.out ?_ ?_ ?_ ?_ ?_)
                · exact rq.out.six ovq _ _ _ _ _ _
                · exact ra.out.six ova _ _ _ _ _ _
                · exact rn.out.six ovn _ _ _ _ _ _
                · exact rr.out.six ovr _ _ _ _ _ _
                · exact K.out.six G hle _ _ _ _ _ _
              · have hne : ((R.next : Int) != (m.size : Int)) = true := by rw [bne_iff_ne]; omega
                have HD := hide (d5.out he)
                generalize R.next = nx at *
                clear d5 d6 he
                go_wp2
                refine bodyPost_ret (v := .tuple #[noV, .int .i64 5]) (by simp [results, Try.results11, go_sem, noV, c0, c1, c2, c3, c4, c5]) rfl (DecEnd.bad HD.out ?_)
                exact K.out.six G hle _ _ _ _ _ _
            · have hne : ((R.e : Int) != 0) = true := by rw [bne_iff_ne]; omega
              have HD := hide (d4.out he5)
              obtain ⟨⟨c0, c1, c2, c3, c4, c5⟩, ⟨f0, f1, f2, f3, f4, f5⟩, hg⟩ := B1.six
              clear B1 B2 he5
              generalize R.e = E at *
              go_wp2
              refine bodyPost_ret (v := .tuple #[noV, .int .i64 E]) (by simp [results, Try.results11, go_sem, noV, c0, c1, c2, c3, c4, c5]) rfl (DecEnd.bad HD.out ?_)
              exact K.six G hle _ _ _ _ _ _
          · have hne : ((N.e : Int) != 0) = true := by rw [bne_iff_ne]; omega
            have HD := hide (d3.out he4)
            obtain ⟨⟨c0, c1, c2, c3, c4, c5⟩, ⟨f0, f1, f2, f3, f4, f5⟩, hg⟩ := B1.six
            clear B1 B2 he4
            generalize N.e = E at *
            go_wp2
            refine bodyPost_ret (v := .tuple #[noV, .int .i64 E]) (by simp [results, Try.results11, go_sem, noV, c0, c1, c2, c3, c4, c5]) rfl (DecEnd.bad HD.out ?_)
            exact K.six G hle _ _ _ _ _ _
        · have hne : ((A.e : Int) != 0) = true := by rw [bne_iff_ne]; omega
          have HD := hide (d2.out he3)
          obtain ⟨⟨c0, c1, c2, c3, c4, c5⟩, ⟨f0, f1, f2, f3, f4, f5⟩, hg⟩ := B1.six
          clear B1 B2 he3
          generalize A.e = E at *
          go_wp2
          refine bodyPost_ret (v := .tuple #[noV, .int .i64 E]) (by simp [results, Try.results11, go_sem, noV, c0, c1, c2, c3, c4, c5]) rfl (DecEnd.bad HD.out ?_)
          exact K.six G hle _ _ _ _ _ _
      · have hne : ((Q.e : Int) != 0) = true := by rw [bne_iff_ne]; omega
        have HD := hide (d1.out he2)
        obtain ⟨⟨c0, c1, c2, c3, c4, c5⟩, ⟨f0, f1, f2, f3, f4, f5⟩, hg⟩ := B1.six
        clear B1 B2 he2
        generalize Q.e = E at *
        go_wp2
        refine bodyPost_ret (v := .tuple #[noV, .int .i64 E]) (by simp [results, Try.results11, go_sem, noV, c0, c1, c2, c3, c4, c5]) rfl (DecEnd.bad HD.out ?_)
        exact K.six G hle _ _ _ _ _ _
end Go.Proofs.Ytmhipcphgbcggaa
