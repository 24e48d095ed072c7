/- What the document's questions and section of layer 8 answer; and both Heads. No condition. -/
import Derived.Test.YtcohceggooockaaMsgW2
namespace Go.Proofs.Ytcohceggooockaa
open Go.RowKit

set_option maxHeartbeats 4000000 in
set_option maxRecDepth 100000 in
theorem section_any (m : ByteArray) (p k : Nat) (w : World) (hm2 : m.size ≤ 1000000) (hp : p ≤ 1000000) (hk : k ≤ 65535) :
    Calls Try.prog 31 #[.string m, .int .i64 p, .int .i64 k] w (ListEnd w 5 recL8 (decL (decR1 m) k p)) := by
  have HC := hide (fun (q : Nat) (hq : q ≤ 1000000) W => refdecode_any m q W hm2 (by omega))
  have H0 := hide (pre_nil (decR1 m) k p)
  go_enter Try.func31, Try.ntmps31
  go_wp2
  go_loopw [9, 1, 10] (fun v a i wr => ∃ (j q : Nat) (acc : List Rec), j ≤ k ∧ acc.length = j ∧ i = .int .i64 j ∧ a = .int .i64 q ∧ q ≤ 1000000 ∧ OwnsR wr w.heap.size 44 5 v (acc.map recL8) ∧ Keeps w wr ∧ Hid (decL (decR1 m) k p = pre acc (decL (decR1 m) (k - j) q))) (fun _ _ i _ => k - (intOf i).toNat)
  case atStart => exact ⟨0, p, [], by omega, rfl, rfl, rfl, hp, OwnsR.nil _ _ _ _, Keeps.refl _, H0.out.symm⟩
  case round =>
    obtain ⟨j, q, acc, hj, hacc, rfl, rfl, hq, hown, K, HD⟩ := hrel
    have hsz := K.size
    by_cases hlt : j < k
    · obtain ⟨r, hr⟩ : ∃ r, k - j = r + 1 := ⟨k - j - 1, by omega⟩
      have hr2 : k - (j + 1) = r := by omega
      rw [hr] at HD
      by_cases he : (decR1 m q).e = 0
      · have HN := hide (HD.out.trans (pre_step (decR1 m) acc r q he))
        have hnx := decR1_next m q he
        have HC2 := hide (HC.out q hq)
        unfold decV at HC2
        rw [show (decR m (q : Nat)).r = (decR1 m q).x from rfl, show (decR m (q : Nat)).next = (decR1 m q).next from rfl, show (decR m (q : Nat)).e = (decR1 m q).e from rfl] at HC2
        rw [he] at HC2
        clear HC HD H0
        generalize (decR1 m q).next = nx at *
        generalize (decR1 m q).x = X at *
        go_wp2_with fail
        refine (HC2.out _).mono ?_
        rintro e w1 ⟨rfl, k1⟩
        have hown1 := hown.below k1
        have K1 := K.trans k1
        have hs1 := k1.size
        clear hown K k1 HC2
        unfold recV
        go_wp2_with (at_builtin; refine wpList_appR 44 24 5 56 (recV noRec) _ Try.underlying24 Try.infoRR rfl (by decide) rfl _ _ rfl w.heap.size _ _ rfl ((hown1.alloc _).alloc _) _ _ (recL8 X) rfl rfl ?c0 ?c1 ?c2 ?c3 ?c4 ?_)
        case c0 => intro u hu; simp only [recL8, List.mem_cons, List.not_mem_nil, or_false] at hu; rcases hu with rfl | rfl | rfl | rfl | rfl <;> rfl
        case c1 =>
          intro j u hu
          have := cells_box (w1.alloc (.cells #[.string X.n, .int .i64 X.t, .int .i64 X.c, .int .i64 X.l, .string X.d] 44)) #[.string X.n, .int .i64 X.t, .int .i64 X.c, .int .i64 X.l, .string X.d] 44 j u hu
          simpa using this
        case c2 => simp [hacc]; unfold maxLen; omega
        case c3 => simp [hacc]; omega
        case c4 => simp; omega
        intro v' w2 hown2 hb2 _
        have K2 : Keeps w w2 := Below.trans ((K1.alloc (.cells #[.string X.n, .int .i64 X.t, .int .i64 X.c, .int .i64 X.l, .string X.d] 44)).alloc (.cells #[.string X.n, .int .i64 X.t, .int .i64 X.c, .int .i64 X.l, .string X.d] 44)) hb2
        clear hb2 hown1 K1
        go_wp2
        go_roundw
        case rel => exact ⟨j + 1, nx, acc ++ [X], by omega, by simp [hacc], by go_num, rfl, by omega, by rw [List.map_append]; exact hown2, K2, by rw [hr2]; exact HN⟩
        case measure => simp [intOf]; omega
      · have HB := hide (HD.out.trans (pre_bad (decR1 m) acc r q he))
        have HC2 := hide (HC.out q hq)
        unfold decV at HC2
        rw [show (decR m (q : Nat)).r = (decR1 m q).x from rfl, show (decR m (q : Nat)).next = (decR1 m q).next from rfl, show (decR m (q : Nat)).e = (decR1 m q).e from rfl] at HC2
        clear HC HD H0
        generalize decL (decR1 m) k p = D at *
        generalize (decR1 m q).next = nx at *
        generalize (decR1 m q).x = X at *
        generalize (decR1 m q).e = E at *
        have hne : ((E : Int) != 0) = true := by rw [bne_iff_ne]; omega
        go_wp2_with fail
        refine (HC2.out _).mono ?_
        rintro e w1 ⟨rfl, k1⟩
        have K1 := (K.trans k1).alloc (.cells #[.string X.n, .int .i64 X.t, .int .i64 X.c, .int .i64 X.l, .string X.d] 44)
        clear hown K k1 HC2
        unfold recV
        go_wp2
        go_ret3
        exact ListEnd.mk (by rw [HB.out]; rfl) (by rw [HB.out]) (by rw [HB.out]; exact ReadRow.nil) (Within.none _ _) K1
    · obtain rfl : j = k := by omega
      rw [Nat.sub_self] at HD
      have HE := hide (HD.out.trans (pre_end _ acc q))
      clear HD H0 HC
      generalize decL (decR1 m) j p = D at *
      go_wp2
      go_ret3
      exact ListEnd.mk (by rw [HE.out]) (by rw [HE.out]; rfl) (by rw [HE.out]; exact hown.read) hown.within K

set_option maxHeartbeats 4000000 in
set_option maxRecDepth 100000 in
theorem questions_any (m : ByteArray) (p k : Nat) (w : World) (hm2 : m.size ≤ 1000000) (hp : p ≤ 1000000) (hk : k ≤ 65535) :
    Calls Try.prog 30 #[.string m, .int .i64 p, .int .i64 k] w (ListEnd w 3 qnL (decL (decQ m) k p)) := by
  have hm : m.size ≤ maxLen := by unfold maxLen; omega
  have HC := hide (fun (q : Nat) (hq : q ≤ 1000000) W => refread_any m q W hm (by omega))
  have H0 := hide (pre_nil (decQ m) k p)
  go_enter Try.func30, Try.ntmps30
  go_wp2
  go_loopw [9, 1, 10] (fun v a i wr => ∃ (j q : Nat) (acc : List Qn), j ≤ k ∧ acc.length = j ∧ i = .int .i64 j ∧ a = .int .i64 q ∧ q ≤ 1000000 ∧ OwnsR wr w.heap.size 42 3 v (acc.map qnL) ∧ Keeps w wr ∧ Hid (decL (decQ m) k p = pre acc (decL (decQ m) (k - j) q))) (fun _ _ i _ => k - (intOf i).toNat)
  case atStart => exact ⟨0, p, [], by omega, rfl, rfl, rfl, hp, OwnsR.nil _ _ _ _, Keeps.refl _, H0.out.symm⟩
  case round =>
    obtain ⟨j, q, acc, hj, hacc, rfl, rfl, hq, hown, K, HD⟩ := hrel
    have hsz := K.size
    by_cases hlt : j < k
    · obtain ⟨r, hr⟩ : ∃ r, k - j = r + 1 := ⟨k - j - 1, by omega⟩
      have hr2 : k - (j + 1) = r := by omega
      rw [hr] at HD
      have HC2 := hide (HC.out q hq)
      by_cases he : (Cm.readL (bl m) q).e = 0
      · by_cases h2 : (Cm.readL (bl m) q).next + 4 ≤ m.size
        · have hy := decQ_yes he h2
          have HN := hide (HD.out.trans (pre_step (decQ m) acc r q (by rw [hy])))
          rw [hy] at HN
          rw [he] at HC2
          have ht : Oct.takeOk m (Cm.readL (bl m) q).next 4 = true := by rw [show (4 : Int) = ((4 : Nat) : Int) by rfl, takeOk_nat, decide_eq_true h2]
          clear HC HD H0 hy he
          generalize rrS (Cm.readL (bl m) q) = N at *
          generalize (Cm.readL (bl m) q).next = i at *
          go_wp2_with fail
          refine (HC2.out _).mono ?_
          rintro e w1 ⟨rfl, hw1⟩
          subst hw1
          go_wp2_with fail
          refine (reftake_any _ _ _ _ hm (by omega)).mono ?_
          rintro e w1 ⟨rfl, hw1⟩
          subst hw1
          rw [ht]
          go_wp2_with fail
          refine (refget_any _ _ _ _ hm (by omega)).mono ?_
          rintro e w1 ⟨rfl, hw1⟩
          subst hw1
          go_wp2_with fail
          refine (refget_any _ _ _ _ hm (by omega)).mono ?_
          rintro e w1 ⟨rfl, hw1⟩
          subst hw1
          generalize Oct.getN m i 2 = A1 at *
          generalize Oct.getN m ((i : Int) + 2) 2 = A2 at *
          go_wp2_with (at_builtin; refine wpList_appR 42 23 3 32 (qnV noQn) _ Try.underlying23 Try.infoQ rfl (by decide) rfl _ _ rfl w.heap.size _ _ rfl (hown.alloc _) _ _ (qnL ⟨N, A1, A2⟩) rfl rfl ?c0 ?c1 ?c2 ?c3 ?c4 ?_)
          case c0 => intro u hu; simp only [qnL, List.mem_cons, List.not_mem_nil, or_false] at hu; rcases hu with rfl | rfl | rfl <;> rfl
          case c1 =>
            intro j u hu
            exact cells_box _ #[.string N, .int .i64 A1, .int .i64 A2] 42 j u hu
          case c2 => simp [hacc]; unfold maxLen; omega
          case c3 => simp [hacc]; omega
          case c4 => simp; omega
          intro v' w2 hown2 hb2 _
          have K2 : Keeps w w2 := Below.trans (K.alloc (.cells #[.string N, .int .i64 A1, .int .i64 A2] 42)) hb2
          clear hb2 hown K
          go_wp2
          go_roundw
          case rel => exact ⟨j + 1, i + 4, acc ++ [⟨N, A1, A2⟩], by omega, by simp [hacc], by go_num, by go_num, by omega, by rw [List.map_append]; exact hown2, K2, by rw [hr2]; exact HN⟩
          case measure => simp [intOf]; omega
        · have hy := decQ_cut he h2
          have HB := hide (HD.out.trans (pre_bad (decQ m) acc r q (by rw [hy]; decide)))
          rw [hy] at HB
          rw [he] at HC2
          have ht : Oct.takeOk m (Cm.readL (bl m) q).next 4 = false := by rw [show (4 : Int) = ((4 : Nat) : Int) by rfl, takeOk_nat, decide_eq_false h2]
          clear HC HD H0 hy
          obtain ⟨z1, z2⟩ := rrS_size (l := bl m) (p := q) rfl
          rw [bl_length] at z2
          clear he
          generalize decL (decQ m) k p = D at *
          generalize rrS (Cm.readL (bl m) q) = N at *
          generalize (Cm.readL (bl m) q).next = i at *
          go_wp2_with fail
          refine (HC2.out _).mono ?_
          rintro e w1 ⟨rfl, hw1⟩
          subst hw1
          go_wp2_with fail
          refine (reftake_any _ _ _ _ hm (by omega)).mono ?_
          rintro e w1 ⟨rfl, hw1⟩
          subst hw1
          rw [ht]
          go_wp2
          go_ret3
          exact ListEnd.mk (by rw [HB.out]; rfl) (by rw [HB.out]; rfl) (by rw [HB.out]; exact ReadRow.nil) (Within.none _ _) K
      · have hy := decQ_bad he
        have HB := hide (HD.out.trans (pre_bad (decQ m) acc r q (by rw [hy]; exact he)))
        rw [hy] at HB
        clear HC HD H0 hy
        generalize decL (decQ m) k p = D at *
        generalize Cm.readL (bl m) q = R at *
        have hne : ((R.e : Int) != 0) = true := by rw [bne_iff_ne]; omega
        go_wp2_with fail
        refine (HC2.out _).mono ?_
        rintro e w1 ⟨rfl, hw1⟩
        subst hw1
        go_wp2
        go_ret3
        exact ListEnd.mk (by rw [HB.out]; rfl) (by rw [HB.out]) (by rw [HB.out]; exact ReadRow.nil) (Within.none _ _) K
    · obtain rfl : j = k := by omega
      rw [Nat.sub_self] at HD
      have HE := hide (HD.out.trans (pre_end _ acc q))
      clear HD H0 HC
      generalize decL (decQ m) j p = D at *
      go_wp2
      go_ret3
      exact ListEnd.mk (by rw [HE.out]) (by rw [HE.out]; rfl) (by rw [HE.out]; exact hown.read) hown.within K

/-- What Head answers. -/
def headV (m : ByteArray) : Value := .tuple #[.int .i64 (hd m 0), .int .i64 (hd m 1), .bool (decide (12 ≤ m.size))]
set_option maxHeartbeats 2000000 in
theorem Head_any (m : ByteArray) (w : World) (hm : m.size ≤ maxLen) :
    Calls Try.prog 12 #[.string m] w fun e w' => e = .returned (headV m) ∧ Keeps w w' := by
  have H1 := hide (fun W => head_any m W hm)
  unfold hdV at H1
  unfold headV
  generalize hd m 0 = n0 at *
  generalize hd m 1 = n1 at *
  generalize hd m 2 = n2 at *
  generalize hd m 3 = n3 at *
  generalize hd m 4 = n4 at *
  generalize hd m 5 = n5 at *
  generalize decide (12 ≤ m.size) = b at *
  go_enter Try.func12, Try.ntmps12
  go_wp2_with fail
  refine (H1.out _).mono ?_
  rintro e w1 ⟨rfl, k1⟩
  obtain ⟨⟨c0, c1, _⟩, _, hg⟩ := (Blk.made w1 #[.int .i64 n0, .int .i64 n1, .int .i64 n2, .int .i64 n3, .int .i64 n4, .int .i64 n5] 45).six
  have K := k1.alloc (.cells #[.int .i64 n0, .int .i64 n1, .int .i64 n2, .int .i64 n3, .int .i64 n4, .int .i64 n5] 45)
  go_wp2_with fail
  generalize w1.alloc (.cells #[.int .i64 n0, .int .i64 n1, .int .i64 n2, .int .i64 n3, .int .i64 n4, .int .i64 n5] 45) = W at *
  generalize w1.heap.size = G at *
  go_region
  go_wp2
  go_ret3
  exact ⟨rfl, K.drew⟩

theorem hd_yes {m : ByteArray} (h : 12 ≤ m.size) (k : Nat) : hd m k = num m k := if_pos h
theorem hd_no {m : ByteArray} (h : ¬ 12 ≤ m.size) (k : Nat) : hd m k = 0 := if_neg h
set_option maxHeartbeats 2000000 in
theorem refHead_any (m : ByteArray) (w : World) (hm : m.size ≤ maxLen) :
    Calls Try.prog 13 #[.string m] w fun e w' => e = .returned (headV m) ∧ w' = w := by
  unfold headV
  by_cases h : 12 ≤ m.size
  · rw [hd_yes h, hd_yes h, decide_eq_true h]
    have h' : ¬ (m.size : Int) < 12 := by omega
    have e0 : Oct.getN m 0 2 = num m 0 := rfl
    have e1 : Oct.getN m 2 2 = num m 1 := rfl
    go_enter Try.func13, Try.ntmps13
    go_wp2_with (go_at_call 29; refine (refget_any _ _ _ _ hm (by omega)).mono ?_; rintro e w1 ⟨rfl, hw1⟩; subst hw1)
    go_ret3
    exact ⟨by rw [← e0, ← e1]; rfl, rfl⟩
  · rw [hd_no h, hd_no h, decide_eq_false h]
    have h' : (m.size : Int) < 12 := by omega
    go_enter Try.func13, Try.ntmps13
    go_wp2
    go_ret3
    exact ⟨rfl, rfl⟩
end Go.Proofs.Ytcohceggooockaa
