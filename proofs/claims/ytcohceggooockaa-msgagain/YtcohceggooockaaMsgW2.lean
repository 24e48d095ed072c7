/- What decodeList of layer 8 answers, of questions and of records. No condition. -/
import Derived.Test.YtcohceggooockaaMsgW1
namespace Go.Proofs.Ytcohceggooockaa
open Go.RowKit

/-- The slice's own block, if it has one, lies between these. -/
def Within (v : Value) (lo hi : Nat) : Prop := ∀ b, v.ownBlock = some b → lo ≤ b ∧ b < hi
theorem OwnsR.within {w : World} {B : Nat} {ty : TypeId} {c : Nat} {v : Value} {l : List (List Value)} (h : OwnsR w B ty c v l) : Within v B w.heap.size := by
  intro b hb
  rcases h.1.2 with ⟨rfl, _⟩ | ⟨g, cap, cur, rfl, hB, hg, _⟩
  · cases hb
  · simp only [Value.ownBlock, Option.some.injEq] at hb
    subst hb
    exact ⟨hB, (Array.getElem?_eq_some_iff.1 hg).1⟩
theorem Within.none (lo hi : Nat) : Within (.slice none 0 0) lo hi := by intro b h; cases h
/-- What comes of a list that is decoded. -/
def ListEnd {α : Type} (w : World) (c : Nat) (f : α → List Value) (d : DL α) (e : Ending) (w' : World) : Prop := ∃ v, e = .returned (.tuple #[v, .int .i64 d.next, .int .i64 d.e]) ∧ ReadRow w' v c (d.xs.map f) ∧ Within v w.heap.size w'.heap.size ∧ Keeps w w'
theorem ListEnd.mk {α : Type} {w : World} {c : Nat} {f : α → List Value} {d : DL α} {w' : World} {v : Value} {n e : Int} (hn : n = d.next) (he : e = d.e) (h : ReadRow w' v c (d.xs.map f)) (hv : Within v w.heap.size w'.heap.size) (k : Keeps w w') : ListEnd w c f d (.returned (.tuple #[v, .int .i64 n, .int .i64 e])) w' := by
  subst hn he
  exact ⟨v, rfl, h, hv, k⟩
theorem decQ_next (m : ByteArray) (p : Nat) (h : (decQ m p).e = 0) : (decQ m p).next ≤ m.size := by
  unfold decQ at h ⊢
  by_cases h1 : (Cm.readL (bl m) p).e = 0
  · rw [if_pos h1] at h ⊢
    by_cases h2 : (Cm.readL (bl m) p).next + 4 ≤ m.size
    · rw [if_pos h2]; exact h2
    · rw [if_neg h2] at h; simp at h
  · rw [if_neg h1] at h; exact absurd h h1
theorem decR1_next (m : ByteArray) (p : Nat) (h : (decR1 m p).e = 0) : (decR1 m p).next ≤ m.size := by
  rcases dec_may m p with ⟨h1, _, _⟩ | ⟨_, _, _, h4, _, _⟩
  · exact absurd h h1
  · exact h4
theorem cells_box (w : World) (A : Array Value) (ty : TypeId) (j : Nat) (u : Value) (h : A.toList[j]? = some u) : (w.alloc (.cells A ty)).cell? ((⟨w.heap.size, 0, none⟩ : Addr).add j) = some u := by
  rw [add_none, Nat.zero_add, World.cell?_alloc_mark]
  simpa using h

set_option maxHeartbeats 4000000 in
set_option maxRecDepth 100000 in
theorem listQ_any (m : ByteArray) (p k : Nat) (w : World) (hm2 : m.size ≤ 1000000) (hp : p ≤ 1000000) (hk : k ≤ 65535) :
    Calls Try.prog 24 #[.string m, .int .i64 p, .int .i64 k, .func (.func 25) #[] #[]] w (ListEnd w 3 qnL (decL (decQ m) k p)) := by
  have HC := hide (fun (q : Nat) (hq : q ≤ 1000000) W => decq_any m q W hm2 (by omega))
  have H0 := hide (pre_nil (decQ m) k p)
  go_enter Try.func24, Try.ntmps24
  go_wp2
  go_loopw [11, 1, 16] (fun v a i wr => ∃ (j q : Nat) (acc : List Qn), j ≤ k ∧ acc.length = j ∧ i = .int .i64 j ∧ a = .int .i64 q ∧ q ≤ 1000000 ∧ OwnsR wr w.heap.size 42 3 v (acc.map qnL) ∧ Keeps w wr ∧ Hid (decL (decQ m) k p = pre acc (decL (decQ m) (k - j) q))) (fun _ _ i _ => k - (intOf i).toNat)
  case atStart => exact ⟨0, p, [], by omega, rfl, rfl, rfl, hp, OwnsR.nil _ _ _ _, Keeps.refl _, H0.out.symm⟩
  case round =>
    obtain ⟨j, q, acc, hj, hacc, rfl, rfl, hq, hown, K, HD⟩ := hrel
    have hsz := K.size
    by_cases hlt : j < k
    · obtain ⟨r, hr⟩ : ∃ r, k - j = r + 1 := ⟨k - j - 1, by omega⟩
      have hr2 : k - (j + 1) = r := by omega
      rw [hr] at HD
      by_cases he : (decQ m q).e = 0
      · have HN := hide (HD.out.trans (pre_step (decQ m) acc r q he))
        have hnx := decQ_next m q he
        have HC2 := hide (HC.out q hq)
        unfold d1Q at HC2
        rw [he] at HC2
        clear HC HD H0
        generalize (decQ m q).next = nx at *
        generalize (decQ m q).x = X at *
        go_wp2_with fail
        refine (HC2.out _).mono ?_
        rintro e w1 ⟨rfl, k1⟩
        have hown1 := hown.below k1
        have K1 := K.trans k1
        have hs1 := k1.size
        clear hown K k1 HC2
        unfold qnV
        go_wp2_with (at_builtin; refine wpList_appR 42 23 3 32 (qnV noQn) _ Try.underlying23 Try.infoQ rfl (by decide) rfl _ _ rfl w.heap.size _ _ rfl ((hown1.alloc _).alloc _) _ _ (qnL X) rfl rfl ?c0 ?c1 ?c2 ?c3 ?c4 ?_)
        case c0 => intro u hu; simp only [qnL, List.mem_cons, List.not_mem_nil, or_false] at hu; rcases hu with rfl | rfl | rfl <;> rfl
        case c1 =>
          intro j u hu
          have := cells_box (w1.alloc (.cells #[.string X.n, .int .i64 X.t, .int .i64 X.c] 42)) #[.string X.n, .int .i64 X.t, .int .i64 X.c] 42 j u hu
          simpa using this
        case c2 => simp [hacc]; unfold maxLen; omega
        case c3 => simp [hacc]; omega
        case c4 => simp; omega
        intro v' w2 hown2 hb2 _
        have K2 : Keeps w w2 := Below.trans ((K1.alloc (.cells #[.string X.n, .int .i64 X.t, .int .i64 X.c] 42)).alloc (.cells #[.string X.n, .int .i64 X.t, .int .i64 X.c] 42)) hb2
        clear hb2 hown1 K1
        go_wp2
        go_roundw
        case rel => exact ⟨j + 1, nx, acc ++ [X], by omega, by simp [hacc], by go_num, rfl, by omega, by rw [List.map_append]; exact hown2, K2, by rw [hr2]; exact HN⟩
        case measure => simp [intOf]; omega
      · have HB := hide (HD.out.trans (pre_bad (decQ m) acc r q he))
        have HC2 := hide (HC.out q hq)
        unfold d1Q at HC2
        clear HC HD H0
        generalize decL (decQ m) k p = D at *
        generalize (decQ m q).next = nx at *
        generalize (decQ m q).x = X at *
        generalize (decQ m q).e = E at *
        have hne : ((E : Int) != 0) = true := by rw [bne_iff_ne]; omega
        go_wp2_with fail
        refine (HC2.out _).mono ?_
        rintro e w1 ⟨rfl, k1⟩
        have K1 := (K.trans k1).alloc (.cells #[.string X.n, .int .i64 X.t, .int .i64 X.c] 42)
        clear hown K k1 HC2
        unfold qnV
        go_wp2
        go_ret3
        exact ListEnd.mk (by rw [HB.out]; rfl) (by rw [HB.out]) (by rw [HB.out]; exact ReadRow.nil) (Within.none _ _) K1
    · obtain rfl : j = k := by omega
      rw [Nat.sub_self] at HD
      have HE := hide (HD.out.trans (pre_end _ acc q))
      clear HD H0 HC
      generalize decL (decQ m) j p = D at *
      go_wp2
      go_ret3
      exact ListEnd.mk (by rw [HE.out]) (by rw [HE.out]; rfl) (by rw [HE.out]; exact hown.read) hown.within K

set_option maxHeartbeats 4000000 in
set_option maxRecDepth 100000 in
theorem listR_any (m : ByteArray) (p k : Nat) (w : World) (hm2 : m.size ≤ 1000000) (hp : p ≤ 1000000) (hk : k ≤ 65535) :
    Calls Try.prog 27 #[.string m, .int .i64 p, .int .i64 k, .func (.func 28) #[] #[]] w (ListEnd w 5 recL8 (decL (decR1 m) k p)) := by
  have HC := hide (fun (q : Nat) (hq : q ≤ 1000000) W => decode_any m q W hm2 (by omega))
  have H0 := hide (pre_nil (decR1 m) k p)
  go_enter Try.func27, Try.ntmps27
  go_wp2
  go_loopw [11, 1, 16] (fun v a i wr => ∃ (j q : Nat) (acc : List Rec), j ≤ k ∧ acc.length = j ∧ i = .int .i64 j ∧ a = .int .i64 q ∧ q ≤ 1000000 ∧ OwnsR wr w.heap.size 44 5 v (acc.map recL8) ∧ Keeps w wr ∧ Hid (decL (decR1 m) k p = pre acc (decL (decR1 m) (k - j) q))) (fun _ _ i _ => k - (intOf i).toNat)
  case atStart => exact ⟨0, p, [], by omega, rfl, rfl, rfl, hp, OwnsR.nil _ _ _ _, Keeps.refl _, H0.out.symm⟩
  case round =>
    obtain ⟨j, q, acc, hj, hacc, rfl, rfl, hq, hown, K, HD⟩ := hrel
    have hsz := K.size
    by_cases hlt : j < k
    · obtain ⟨r, hr⟩ : ∃ r, k - j = r + 1 := ⟨k - j - 1, by omega⟩
      have hr2 : k - (j + 1) = r := by omega
      rw [hr] at HD
      by_cases he : (decR1 m q).e = 0
      · have HN := hide (HD.out.trans (pre_step (decR1 m) acc r q he))
        have hnx := decR1_next m q he
        have HC2 := hide (HC.out q hq)
        unfold decV at HC2
        rw [show (decR m (q : Nat)).r = (decR1 m q).x from rfl, show (decR m (q : Nat)).next = (decR1 m q).next from rfl, show (decR m (q : Nat)).e = (decR1 m q).e from rfl] at HC2
        rw [he] at HC2
        clear HC HD H0
        generalize (decR1 m q).next = nx at *
        generalize (decR1 m q).x = X at *
        go_wp2_with fail
        refine (HC2.out _).mono ?_
        rintro e w1 ⟨rfl, k1⟩
        have hown1 := hown.below k1
        have K1 := K.trans k1
        have hs1 := k1.size
        clear hown K k1 HC2
        unfold recV
        go_wp2_with (at_builtin; refine wpList_appR 44 24 5 56 (recV noRec) _ Try.underlying24 Try.infoRR rfl (by decide) rfl _ _ rfl w.heap.size _ _ rfl ((hown1.alloc _).alloc _) _ _ (recL8 X) rfl rfl ?c0 ?c1 ?c2 ?c3 ?c4 ?_)
        case c0 => intro u hu; simp only [recL8, List.mem_cons, List.not_mem_nil, or_false] at hu; rcases hu with rfl | rfl | rfl | rfl | rfl <;> rfl
        case c1 =>
          intro j u hu
          have := cells_box (w1.alloc (.cells #[.string X.n, .int .i64 X.t, .int .i64 X.c, .int .i64 X.l, .string X.d] 44)) #[.string X.n, .int .i64 X.t, .int .i64 X.c, .int .i64 X.l, .string X.d] 44 j u hu
          simpa using this
        case c2 => simp [hacc]; unfold maxLen; omega
        case c3 => simp [hacc]; omega
        case c4 => simp; omega
        intro v' w2 hown2 hb2 _
        have K2 : Keeps w w2 := Below.trans ((K1.alloc (.cells #[.string X.n, .int .i64 X.t, .int .i64 X.c, .int .i64 X.l, .string X.d] 44)).alloc (.cells #[.string X.n, .int .i64 X.t, .int .i64 X.c, .int .i64 X.l, .string X.d] 44)) hb2
        clear hb2 hown1 K1
        go_wp2
        go_roundw
        case rel => exact ⟨j + 1, nx, acc ++ [X], by omega, by simp [hacc], by go_num, rfl, by omega, by rw [List.map_append]; exact hown2, K2, by rw [hr2]; exact HN⟩
        case measure => simp [intOf]; omega
      · have HB := hide (HD.out.trans (pre_bad (decR1 m) acc r q he))
        have HC2 := hide (HC.out q hq)
        unfold decV at HC2
        rw [show (decR m (q : Nat)).r = (decR1 m q).x from rfl, show (decR m (q : Nat)).next = (decR1 m q).next from rfl, show (decR m (q : Nat)).e = (decR1 m q).e from rfl] at HC2
        clear HC HD H0
        generalize decL (decR1 m) k p = D at *
        generalize (decR1 m q).next = nx at *
        generalize (decR1 m q).x = X at *
        generalize (decR1 m q).e = E at *
        have hne : ((E : Int) != 0) = true := by rw [bne_iff_ne]; omega
        go_wp2_with fail
        refine (HC2.out _).mono ?_
        rintro e w1 ⟨rfl, k1⟩
        have K1 := (K.trans k1).alloc (.cells #[.string X.n, .int .i64 X.t, .int .i64 X.c, .int .i64 X.l, .string X.d] 44)
        clear hown K k1 HC2
        unfold recV
        go_wp2
        go_ret3
        exact ListEnd.mk (by rw [HB.out]; rfl) (by rw [HB.out]) (by rw [HB.out]; exact ReadRow.nil) (Within.none _ _) K1
    · obtain rfl : j = k := by omega
      rw [Nat.sub_self] at HD
      have HE := hide (HD.out.trans (pre_end _ acc q))
      clear HD H0 HC
      generalize decL (decR1 m) j p = D at *
      go_wp2
      go_ret3
      exact ListEnd.mk (by rw [HE.out]) (by rw [HE.out]; rfl) (by rw [HE.out]; exact hown.read) hown.within K
end Go.Proofs.Ytcohceggooockaa
