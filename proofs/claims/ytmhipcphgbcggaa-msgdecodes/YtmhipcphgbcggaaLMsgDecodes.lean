/- MsgDecodes answers true, for every input: the walk. -/
import Derived.Test.YtmhipcphgbcggaaMsgLive
import Derived.Test.YtmhipcphgbcggaaMsgR1
import Derived.Test.YtmhipcphgbcggaaMsgR2
namespace Go.Proofs.Ytmhipcphgbcggaa
open Go.RowKit

theorem decL_len {α : Type} (f : Nat → D1 α) : ∀ (k p : Nat), (decL f k p).xs.length ≤ k
  | 0, p => by simp [decL]
  | k + 1, p => by
    simp only [decL]
    split
    · split
      · have := decL_len f k (f p).next
        simp only [List.length_cons]
        omega
      · simp
    · simp
theorem decM_lens (m : ByteArray) : MsLens (decM m).1 := by
  have hno : MsLens noMs := (no_fine 0).lens
  by_cases h1 : 65535 < m.size
  · rw [decM, if_pos h1]; exact hno
  by_cases h2 : m.size < 12
  · rw [decM, if_neg h1, if_pos h2]; exact hno
  obtain ⟨N2, N3, N4, N5, Q, A, N, R, ⟨_, b2⟩, ⟨_, b3⟩, ⟨_, b4⟩, ⟨_, b5⟩, hQ, hA, hN, hR, _, d1, d2, d3, d4, d5, d6⟩ := decM_parts m (by omega) (by omega)
  by_cases e1 : Q.e = 0
  · by_cases e2 : A.e = 0
    · by_cases e3 : N.e = 0
      · by_cases e4 : R.e = 0
        · by_cases e5 : R.next = m.size
          · rw [d6 e1 e2 e3 e4 e5]
            have l1 := decL_len (decQ m) N2 12
            have l2 := decL_len (decR1 m) N3 Q.next
            have l3 := decL_len (decR1 m) N4 A.next
            have l4 := decL_len (decR1 m) N5 N.next
            rw [← hQ] at l1
            rw [← hA] at l2
            rw [← hN] at l3
            rw [← hR] at l4
            refine ⟨?_, ?_, ?_, ?_⟩ <;> (unfold maxLen; simp only; omega)
          · rw [d5 e1 e2 e3 e4 e5]; exact hno
        · rw [d4 e1 e2 e3 e4]; exact hno
      · rw [d3 e1 e2 e3]; exact hno
    · rw [d2 e1 e2]; exact hno
  · rw [d1 e1]; exact hno

set_option maxHeartbeats 8000000 in
set_option maxRecDepth 100000 in
theorem MsgDecodes_walk (s : ByteArray) (w : World) (hs : s.size ≤ maxLen) :
    Calls Try.prog 3 #[.string s] w fun e w' => e = .returned (.bool true) ∧ Keeps w w' := by
  by_cases hl : 70000 < (s.size : Int)
  · go_enter Try.func3, Try.ntmps3
    go_wp2_with (go_at_call 9; refine (live8_any _).mono ?_; rintro e w3 ⟨rfl, k3⟩)
    go_ret
    exact ⟨rfl, k3⟩
  have H1 := hide (fun W => Decode_any s W hs)
  have H2 := hide (fun W => refDecode_any s W hs)
  have H3 := hide (fun W => Head_any s W hs)
  have H4 := hide (fun W => refHead_any s W hs)
  have hlen := decM_lens s
  unfold headV at H3 H4
  generalize hd s 0 = n0 at *
  generalize hd s 1 = n1 at *
  generalize decide (12 ≤ s.size) = b0 at *
  generalize decM s = DE at *
  obtain ⟨D, E⟩ := DE
  replace hlen := hide hlen
  have K := hide (Keeps.refl w)
  go_enter Try.func3, Try.ntmps3
  go_wp2_with fail
  refine (H1.out _).mono ?_
  intro e w1 hE
  obtain ⟨aq1, kq1, aa1, ka1, an1, kn1, ar1, kr1, rfl, M1, k1⟩ := live_dec hE rfl
  clear hE
  have B1 := Blk.made w1 #[.int .i64 D.id, .int .i64 D.bits, .slice aq1 D.qs.length kq1, .slice aa1 D.an.length ka1, .slice an1 D.ns.length kn1, .slice ar1 D.ar.length kr1] 26
  have kb := (Keeps.refl w1).alloc (.cells #[.int .i64 D.id, .int .i64 D.bits, .slice aq1 D.qs.length kq1, .slice aa1 D.an.length ka1, .slice an1 D.ns.length kn1, .slice ar1 D.ar.length kr1] 26)
  replace K := hide ((K.out.trans k1).trans kb)
  replace M1 := hide (M1.keeps kb)
  replace B1 := hide B1
  clear k1 kb
  go_wp2_with fail
  generalize w1.alloc (.cells #[.int .i64 D.id, .int .i64 D.bits, .slice aq1 D.qs.length kq1, .slice aa1 D.an.length ka1, .slice an1 D.ns.length kn1, .slice ar1 D.ar.length kr1] 26) = W1 at *
  generalize w1.heap.size = G1 at *
  refine (H2.out _).mono ?_
  intro e w2 hE
  obtain ⟨aq2, kq2, aa2, ka2, an2, kn2, ar2, kr2, rfl, M2, k1⟩ := live_dec hE rfl
  clear hE
  have B2 := Blk.made w2 #[.int .i64 D.id, .int .i64 D.bits, .slice aq2 D.qs.length kq2, .slice aa2 D.an.length ka2, .slice an2 D.ns.length kn2, .slice ar2 D.ar.length kr2] 26
  have kb := (Keeps.refl w2).alloc (.cells #[.int .i64 D.id, .int .i64 D.bits, .slice aq2 D.qs.length kq2, .slice aa2 D.an.length ka2, .slice an2 D.ns.length kn2, .slice ar2 D.ar.length kr2] 26)
  have kc := k1.trans kb
  replace K := hide (K.out.trans kc)
  replace M1 := hide (M1.out.keeps kc)
  replace B1 := hide (B1.out.keeps kc)
  replace M2 := hide (M2.keeps kb)
  replace B2 := hide B2
  clear k1 kb kc
  go_wp2_with fail
  generalize w2.alloc (.cells #[.int .i64 D.id, .int .i64 D.bits, .slice aq2 D.qs.length kq2, .slice aa2 D.an.length ka2, .slice an2 D.ns.length kn2, .slice ar2 D.ar.length kr2] 26) = W2 at *
  generalize w2.heap.size = G2 at *
  refine (H3.out _).mono ?_
  rintro e w3 ⟨rfl, k1⟩
  replace K := hide (K.out.trans k1)
  replace M1 := hide (M1.out.keeps k1)
  replace B1 := hide (B1.out.keeps k1)
  replace M2 := hide (M2.out.keeps k1)
  replace B2 := hide (B2.out.keeps k1)
  clear k1
  go_wp2_with fail
  refine (H4.out _).mono ?_
  rintro e w4 ⟨rfl, hw⟩
  subst hw
  obtain ⟨x0, x1, x2, x3, x4, x5, x6⟩ := B1.out.six6
  obtain ⟨y0, y1, y2, y3, y4, y5, y6⟩ := B2.out.six6
  go_wp2_with fail
  refine (refSame8_any _ _ D D _ M1.out M2.out hlen.out hlen.out).mono ?_
  rintro e w5 ⟨rfl, k1⟩
  replace K := hide (K.out.trans k1)
  rw [decide_eq_true rfl]
  clear x0 x1 x2 x3 x4 x5 x6 y0 y1 y2 y3 y4 y5 y6 k1
  go_wp2_with fail
  refine (live8_any _).mono ?_
  rintro e w6 ⟨rfl, k1⟩
  replace K := hide (K.out.trans k1)
  clear k1
  go_wp2
  go_ret
  exact ⟨rfl, K.out⟩
end Go.Proofs.Ytmhipcphgbcggaa
