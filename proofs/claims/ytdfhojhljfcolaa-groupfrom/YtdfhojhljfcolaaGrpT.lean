/- The document's lay: one record into sets that the call keeps. No condition but lengths. -/
import Derived.Test.YtdfhojhljfcolaaGrpS
import Derived.Test.YtdfhojhljfcolaaGrp8
import Derived.Test.YtdfhojhljfcolaaGrpR1
namespace Go.Proofs.Ytdfhojhljfcolaa
open Go.RowKit

def LayEnd (w : World) (B : Nat) (l : List St) (e : Ending) (w' : World) : Prop := ∃ v ss, e = .returned v ∧ SetsOwn w' B v ss ∧ ss.map (·.1) = l ∧ Below B w w'
theorem LayEnd.mk {w w' : World} {B : Nat} {l : List St} {v : Value} (ss : List (St × Value)) (h : SetsOwn w' B v ss) (e : ss.map (·.1) = l) (b : Below B w w') : LayEnd w B l (.returned v) w' := ⟨v, ss, rfl, h, e, b⟩
def LayRel (ss : List (St × Value)) (q : Qn) (w : World) (i : Value) (wr : World) : Prop := ∃ j : Nat, j ≤ ss.length ∧ i = .int .i64 j ∧ (∀ k (hk : k < ss.length), k < j → ss[k].1.key ≠ q) ∧ Keeps w wr
theorem keep_below {B : Nat} {w w' : World} (h : Keeps w w') (hB : B ≤ w.heap.size) : Below B w w' := Below.mono h hB

set_option maxHeartbeats 8000000 in
set_option maxRecDepth 100000 in
theorem refLay_any (v : Value) (ss : List (St × Value)) (r : Rec) (B : Nat) (w : World) (hB : B ≤ w.heap.size) (hO : SetsOwn w B v ss) (hn : r.n.size ≤ maxLen) (hd : r.d.size ≤ maxLen) (h1 : ss.length ≤ 1000000) (h2 : ∀ x ∈ ss, x.1.ds.length ≤ 1000000) :
    Calls Try.prog 31 #[v, recV r] w fun e w' => LayEnd w B (layM (keyM r) r.l (lowR r) (ss.map (·.1))) e w' := by
  have HK := fun W => refKey_any r W hn hd
  have HL : ∀ W, Calls Try.prog 27 #[.int .i64 r.t, .string r.d] W fun e w' => e = .returned (.string ⟨(lowR r).toArray⟩) ∧ Keeps W w' := fun W => reflow5_any r.t r.d W hd
  have HHit := hide (layM_hit (keyM r) r.l (lowR r) (ss.map (·.1)))
  have HMiss := hide (layM_miss (keyM r) r.l (lowR r) (ss.map (·.1)))
  have hdl : (lowR r).length ≤ 65535 := lowD_len _ _
  generalize hX : layM (keyM r) r.l (lowR r) (ss.map (·.1)) = X at *
  generalize keyM r = kq at *
  generalize lowR r = dl at *
  simp only [recV, qnV] at HK
  replace HK := hide HK
  replace HL := hide HL
  replace hX := hide hX
  obtain ⟨a, cap, hv⟩ := hO.len
  subst hv
  unfold recV
  have K := hide ((Keeps.refl w).alloc (.cells #[.string r.n, .int .i64 r.t, .int .i64 r.c, .int .i64 r.l, .string r.d] 29))
  have Br := hide (Blk.made w #[.string r.n, .int .i64 r.t, .int .i64 r.c, .int .i64 r.l, .string r.d] 29)
  replace hO := hide hO
  go_enter Try.func31, Try.ntmps31
  go_upto_region 1 with fail
  generalize w.alloc (.cells #[.string r.n, .int .i64 r.t, .int .i64 r.c, .int .i64 r.l, .string r.d] 29) = W1 at *
  generalize w.heap.size = Gr at Br ⊢
  obtain ⟨b0, b1, b2, b3, b4, _⟩ := Br.out.five_cells
  go_wp2_with fail
  refine (HK.out _).mono ?_
  rintro e w2 ⟨rfl, k1⟩
  replace K := hide (K.out.trans k1)
  replace Br := hide (Br.out.keeps k1)
  clear k1 b0 b1 b2 b3 b4 HK
  go_upto_region 2 with fail
  have k1 := (Keeps.refl w2).alloc (.cells #[.string kq.n, .int .i64 kq.t, .int .i64 kq.c] 26)
  have Bk := hide (Blk.made w2 #[.string kq.n, .int .i64 kq.t, .int .i64 kq.c] 26)
  replace K := hide (K.out.trans k1)
  replace Br := hide (Br.out.keeps k1)
  clear k1
  generalize w2.alloc (.cells #[.string kq.n, .int .i64 kq.t, .int .i64 kq.c] 26) = W2 at *
  generalize w2.heap.size = Gk at *
  obtain ⟨b0, b1, b2, b3, b4, _⟩ := Br.out.five_cells
  go_wp2_with fail
  refine (HL.out _).mono ?_
  rintro e w3 ⟨rfl, k1⟩
  replace K := hide (K.out.trans k1)
  replace Br := hide (Br.out.keeps k1)
  replace Bk := hide (Bk.out.keeps k1)
  replace hO := hide (hO.out.below K.out)
  clear k1 b0 b1 b2 b3 b4 HL
  have hB3 : B ≤ w3.heap.size := Nat.le_trans hB K.out.size
  have KB := hide (keep_below K.out hB)
  clear K
  go_wp2_with fail
  go_loopw [7] (fun i wr => LayRel ss kq w3 i wr) (fun i _ => ss.length - (intOf i).toNat)
  case atStart => exact ⟨0, by omega, rfl, fun k hk h0 => by omega, Keeps.refl _⟩
  case round =>
    obtain ⟨i, hi, rfl, hne, K⟩ := hrel
    replace hO := hide (hO.out.below K)
    replace Br := hide (Br.out.keeps K)
    replace Bk := hide (Bk.out.keeps K)
    replace KB := hide (KB.out.trans (keep_below K hB3))
    have hB4 : B ≤ wr.heap.size := Nat.le_trans hB3 K.size
    replace hne := hide hne
    by_cases hlt : i < ss.length
    · obtain ⟨g, cap', he, hgB, hgl⟩ := hO.out.shape (by omega)
      simp only [Value.slice.injEq, true_and] at he
      obtain ⟨rfl, rfl⟩ := he
      have i2 : (i : Int) < (ss.length : Int) := by omega
      have i0 : (0 : Int) ≤ (i : Int) := by omega
      have c0 := hO.out.cell rfl i 0 hlt (by decide)
      have c1 := hO.out.cell rfl i 1 hlt (by decide)
      have c2 := hO.out.cell rfl i 2 hlt (by decide)
      simp only [stR, stL, List.getElem?_cons_succ, List.getElem?_cons_zero, Nat.add_zero] at c0 c1 c2
      obtain ⟨⟨q0, q1, q2⟩, _, _⟩ := Bk.out.three
      have nq := eql_qn ss[i].1.key kq
      by_cases he : ss[i].1.key = kq
      · rw [decide_eq_true he] at nq
        have hXi := hide (HHit.out i (by rw [List.length_map]; exact hlt) (by rw [List.getElem_map]; exact he) (fun k hk hki => by rw [List.getElem_map]; exact hne.out k (by rw [List.length_map] at hk; exact hk) hki))
        replace he := hide he
        have hform := OwnsS.formS (hO.out.ds _ (List.getElem_mem hlt))
        replace hform := hide hform
        generalize hoo3 : i * 5 = o3 at *
        generalize hS1 : ss[i] = s1 at *
        go_wp2_with fail
        go_region
        have kd := (Keeps.refl wr).drew
        replace hO := hide (hO.out.below kd)
        replace Br := hide (Br.out.keeps kd)
        replace KB := hide (KB.out.trans (keep_below kd hB4))
        have hgl4 : g < wr.drew.heap.size := hgl
        clear kd c0 c1 c2 q0 q1 q2 nq Bk K hB4 hgl
        generalize wr.drew = W4 at *
        have hB4 : B ≤ W4.heap.size := by omega
        have c3 := hO.out.cell rfl i 3 hlt (by decide)
        have c4 := hO.out.cell rfl i 4 hlt (by decide)
        have cF := hO.out.frozen rfl (i * 5 + 4)
        have HT4 := hide (hO.out.ttl rfl i hlt (min ss[i].1.ttl r.l))
        simp only [stR, stL, List.getElem?_cons_succ, List.getElem?_cons_zero] at c3 c4
        rw [hoo3] at c3 c4 cF HT4
        rw [hS1] at c3 c4 HT4
        obtain ⟨b0, b1, b2, b3, b4, _⟩ := Br.out.five_cells
        go_upto_region 7 with fail
        go_region
        have O6 := hide (HT4.out.below ((Keeps.refl _).drew))
        have K6 := hide (Below.drew (Below.setCell KB.out (p := ⟨g, o3 + 4, none⟩) hgB (.int .i64 (min s1.1.ttl r.l))))
        have hB6 : B ≤ ((W4.setCell ⟨g, o3 + 4, none⟩ (.int .i64 (min s1.1.ttl r.l))).drew).heap.size := by simpa using hB4
        clear hO HT4 KB Br c3 c4 cF b0 b1 b2 b3 b4
        generalize (W4.setCell ⟨g, o3 + 4, none⟩ (.int .i64 (min s1.1.ttl r.l))).drew = W6 at *
        obtain ⟨s2, hs2⟩ : ∃ x, x = ss.set i (⟨s1.1.key, s1.1.ds, min s1.1.ttl r.l⟩, s1.2) := ⟨_, rfl⟩
        rw [← hs2] at O6
        have l2 : s2.length = ss.length := by rw [hs2, List.length_set]
        have hi2 : i < s2.length := by omega
        have e2 : s2[i] = (⟨s1.1.key, s1.1.ds, min s1.1.ttl r.l⟩, s1.2) := by simp [hs2]
        have m2 : s2.map (·.1) = (ss.map (·.1)).set i ⟨s1.1.key, s1.1.ds, min s1.1.ttl r.l⟩ := by rw [hs2, List.map_set]
        have hX2 : Hid (X = (s2.map (·.1)).set i ⟨s1.1.key, addD s1.1.ds dl, min s1.1.ttl r.l⟩) := by
          rw [Hid, m2, List.set_set, hXi.out, List.getElem_map, hS1]
        have hlen2 : s1.1.ds.length ≤ 1000000 := by rw [← hS1]; exact h2 _ (List.getElem_mem hlt)
        replace m2 := hide m2
        replace hs2 := hide hs2
        replace l2 := hide l2
        replace e2 := hide e2
        have c3 := O6.out.cell l2.out i 3 hi2 (by decide)
        simp only [stR, stL, List.getElem?_cons_succ, List.getElem?_cons_zero] at c3
        rw [hoo3, e2.out] at c3
        have OD := O6.out.ds _ (List.getElem_mem hi2)
        rw [e2.out] at OD
        simp only at c3 OD
        replace OD := hide OD
        have HIN := fun W (k : Keeps W6 W) => In_any s1.2 s1.1.ds ⟨dl.toArray⟩ W (OD.out.read.keeps k) (by unfold maxLen; omega)
        rw [bl_of] at HIN
        clear hXi
        by_cases hin : dl ∈ s1.1.ds
        · rw [decide_eq_true hin] at HIN
          replace HIN := hide HIN
          have hX3 : Hid (s2.map (·.1) = X) := by
            rw [Hid, hX2.out, addD, if_pos hin]
            have hi3 : i < (s2.map (·.1)).length := by rw [List.length_map]; exact hi2
            have e3 : (s2.map (·.1))[i] = ⟨s1.1.key, s1.1.ds, min s1.1.ttl r.l⟩ := by rw [List.getElem_map, e2.out]
            rw [← e3, List.set_getElem_self]
          replace hin := hide hin
          go_wp2_with fail
          refine (HIN.out _ (Keeps.refl _)).mono ?_
          rintro e w7 ⟨rfl, k7⟩
          go_wp2
          go_ret
          exact LayEnd.mk s2 (O6.out.below k7) hX3.out (K6.out.trans (keep_below k7 hB6))
        · rw [decide_eq_false hin] at HIN
          replace HIN := hide HIN
          have hX3 : ∀ v9 : Value, (s2.set i (⟨s1.1.key, s1.1.ds ++ [dl], min s1.1.ttl r.l⟩, v9)).map (·.1) = X := by
            intro v9
            rw [hX2.out, addD, if_neg hin, List.map_set]
          replace hX3 := hide hX3
          replace hin := hide hin
          go_wp2_with fail
          refine (HIN.out _ (Keeps.refl _)).mono ?_
          rintro e w7 ⟨rfl, k7⟩
          replace O6 := hide (O6.out.below k7)
          replace K6 := hide (K6.out.trans (keep_below k7 hB6))
          replace OD := hide (OwnsS.below OD.out k7)
          have hB7 : B ≤ w7.heap.size := Nat.le_trans hB6 k7.size
          clear k7 HIN c3
          have c3 := O6.out.cell l2.out i 3 hi2 (by decide)
          simp only [stR, stL, List.getElem?_cons_succ, List.getElem?_cons_zero] at c3
          rw [hoo3, e2.out] at c3
          simp only at c3
          have OW0 : OwnsR (w7.alloc (.cells #[] 9)) w7.heap.size 9 1 (.slice (some ⟨w7.heap.size, 0, none⟩) 0 0) [] := ⟨World.ownsRow_lit w7 #[] 0 (Nat.le_refl _) (by unfold maxLen; omega) rfl, by simp⟩
          have RD7 := (ownR_of (OD.out.alloc (.cells #[] 9))).read
          obtain ⟨a5, c5, h5⟩ := hform.out
          rw [h5] at RD7 c3
          have c3a : (w7.alloc (.cells #[] 9)).cell? ⟨g, o3 + 3, none⟩ = some (.slice a5 s1.1.ds.length c5) := (World.cell?_alloc_some w7 _ _ (by rw [c3]; rfl)).trans c3
          have hg7 : g < w7.heap.size := World.block_lt_of_cell? w7 _ c3
          replace h5 := hide h5
          go_wp2_with (at_builtin; refine wpList_appRs 9 33 1 16 (.string ⟨#[]⟩) _ Try.underlying33 infoStr rfl (by decide) rfl _ _ rfl w7.heap.size _ [] rfl OW0 (.slice a5 s1.1.ds.length c5) rfl (s1.1.ds.map fun x => [sv x]) RD7 ?p0 ?p1 ?p2 ?p3 ?p4 ?_)
          case p0 =>
            intro x hx
            rw [List.mem_map] at hx
            obtain ⟨y, _, rfl⟩ := hx
            rfl
          case p1 =>
            intro x hx u hu
            rw [List.mem_map] at hx
            obtain ⟨y, _, rfl⟩ := hx
            rw [List.mem_singleton] at hu
            subst hu
            rfl
          case p2 => rw [List.length_map]; unfold maxLen; simp; omega
          case p3 => rw [List.length_map]; simp; omega
          case p4 => simp
          intro v8 w8 hown8 hb8 _
          have K8 : Keeps w7 w8 := Below.trans ((Keeps.refl w7).alloc (.cells #[] 9)) hb8
          clear hb8 OW0 RD7 c3 c3a
          have hown8b := hide (hown8.alloc (.cells #[.string ⟨dl.toArray⟩] 9))
          clear hown8
          go_wp2_with (at_builtin; refine wpList_appR 9 33 1 16 (.string ⟨#[]⟩) _ Try.underlying33 infoStr rfl (by decide) rfl _ _ rfl w7.heap.size _ _ rfl hown8b.out _ _ [sv dl] rfl rfl ?q0 ?q1 ?q2 ?q3 ?q4 ?_)
          case q0 =>
            intro u hu
            rw [List.mem_singleton] at hu
            subst hu
            rfl
          case q1 =>
            intro j u hu
            exact cells_box w8 #[.string ⟨dl.toArray⟩] 9 j u hu
          case q2 => rw [List.length_map]; unfold maxLen; omega
          case q3 => rw [List.length_map]; omega
          case q4 => exact (K8.alloc _).size
          intro v9 w9 hown9 hb9 _
          have K9 := hide (show Keeps w7 w9 from Below.trans (K8.alloc _) hb9)
          have OS9 := hide (ownS_of (ls := s1.1.ds ++ [dl]) (by rw [List.map_append]; exact hown9))
          clear hown9
          obtain ⟨a9, c9, hv9⟩ := OwnsS.formS OS9.out
          subst hv9
          have O9 := O6.out.below K9.out
          have c3 := O9.cell l2.out i 3 hi2 (by decide)
          have cF := O9.frozen l2.out (i * 5 + 3)
          simp only [stR, stL, List.getElem?_cons_succ, List.getElem?_cons_zero] at c3
          rw [hoo3, e2.out] at c3
          rw [hoo3] at cF
          simp only at c3
          clear hb9 K8 hown8b
          have OF := sets_fresh O6.out l2.out i hi2 _ (s1.1.ds ++ [dl]) hB7 K9.out OS9.out
          rw [hoo3, e2.out] at OF
          simp only at OF
          replace OF := hide OF
          have KF := hide (Below.setCell (K6.out.trans (keep_below K9.out hB7)) (p := ⟨g, o3 + 3, none⟩) hgB (.slice a9 (s1.1.ds ++ [dl]).length c9))
          clear O9
          generalize (s1.1.ds ++ [dl]).length = n9 at *
          go_wp2_with fail
          go_ret
          exact LayEnd.mk _ OF.out (hX3.out _) KF.out
      · rw [decide_eq_false he] at nq
        have HN : Hid (∀ k (hk : k < ss.length), k < i + 1 → ss[k].1.key ≠ kq) := fun k hk hki => by
          by_cases h : k = i
          · subst h; exact he
          · exact hne.out k hk (by omega)
        replace he := hide he
        generalize hoo3 : i * 5 = o3 at *
        generalize ss[i] = s1 at *
        go_wp2_with fail
        go_region
        go_wp2
        go_roundw
        case rel => exact ⟨i + 1, by omega, by go_num, HN.out, K.drew⟩
        case measure => simp [intOf]; omega
    · obtain rfl : i = ss.length := by omega
      have hall : ∀ s ∈ ss.map (·.1), s.key ≠ kq := by
        intro s hs
        obtain ⟨k, hk, rfl⟩ := List.getElem_of_mem hs
        rw [List.getElem_map]
        rw [List.length_map] at hk
        exact hne.out k hk hk
      have hXm := hide (HMiss.out hall)
      clear hall hne HHit HMiss
      have RDR := hO.out.row.read.keeps ((Keeps.refl wr).alloc (.cells #[] 35))
      have OW0 : OwnsR (wr.alloc (.cells #[] 35)) wr.heap.size 35 5 (.slice (some ⟨wr.heap.size, 0, none⟩) 0 0) [] := ⟨World.ownsRow_lit wr #[] 0 (Nat.le_refl _) (by unfold maxLen; omega) rfl, by simp⟩
      have hrl : ∀ x ∈ ss.map stR, x.length = 5 := hO.out.row.2
      have hones : ∀ x ∈ ss.map stR, ∀ u ∈ x, u.oneCell' = true := by
        intro x hx u hu
        rw [List.mem_map] at hx
        obtain ⟨y, hy, rfl⟩ := hx
        obtain ⟨a', c', e'⟩ := OwnsS.formS (hO.out.ds y hy)
        simp only [stR, stL, List.mem_cons, List.not_mem_nil, or_false] at hu
        rcases hu with rfl | rfl | rfl | rfl | rfl
        · rfl
        · rfl
        · rfl
        · rw [e']; rfl
        · rfl
      go_wp2_with (at_builtin; refine wpList_appRs 35 31 5 64 _ _ Try.underlying31 infoSet rfl (by decide) rfl _ _ rfl wr.heap.size _ [] rfl OW0 _ rfl (ss.map stR) RDR hrl hones ?p2 ?p3 ?p4 ?_)
      case p2 => rw [List.length_map]; unfold maxLen; simp; omega
      case p3 => rw [List.length_map]; simp; omega
      case p4 => simp
      intro v8 w8 hown8 hb8 _
      have K8 : Keeps wr w8 := Below.trans ((Keeps.refl wr).alloc (.cells #[] 35)) hb8
      clear hb8 OW0 RDR hrl hones
      have OD8 := hide (World.ownsRow_lit (base := wr.heap.size) (size := 1) (e := 9) w8 #[.string ⟨dl.toArray⟩] 1 K8.size (by unfold maxLen; omega) rfl)
      have K9 := hide (K8.alloc (.cells #[.string ⟨dl.toArray⟩] 9))
      have Bk9 := hide ((Bk.out.keeps K8).alloc (.cells #[.string ⟨dl.toArray⟩] 9))
      have Br9 := hide ((Br.out.keeps K8).alloc (.cells #[.string ⟨dl.toArray⟩] 9))
      have OR9 := hide (hown8.alloc (.cells #[.string ⟨dl.toArray⟩] 9))
      have KBk8 := hide (Bk.out.keeps K8)
      have KBr8 := hide (Br.out.keeps K8)
      obtain ⟨⟨q0, q1, q2⟩, _, _⟩ := KBk8.out.three
      obtain ⟨b0, b1, b2, b3, b4, _⟩ := KBr8.out.five_cells
      clear hown8 K8
      have OA := hide (OR9.out.alloc (.cells #[.string kq.n, .int .i64 kq.t, .int .i64 kq.c, .slice (some ⟨w8.heap.size, 0, none⟩) 1 1, .int .i64 r.l] 35))
      have KA := hide (K9.out.alloc (.cells #[.string kq.n, .int .i64 kq.t, .int .i64 kq.c, .slice (some ⟨w8.heap.size, 0, none⟩) 1 1, .int .i64 r.l] 35))
      have DA := hide (World.ownsRow.alloc OD8.out (.cells #[.string kq.n, .int .i64 kq.t, .int .i64 kq.c, .slice (some ⟨w8.heap.size, 0, none⟩) 1 1, .int .i64 r.l] 35))
      obtain ⟨c90, c91, c92, _⟩ : (w8.alloc (.cells #[.string ⟨dl.toArray⟩] 9)).cell? ⟨Gr, 3, none⟩ = some (.int .i64 r.l) ∧ (w8.alloc (.cells #[.string ⟨dl.toArray⟩] 9)).cell? ⟨Gk, 0, none⟩ = some (.string kq.n) ∧ (w8.alloc (.cells #[.string ⟨dl.toArray⟩] 9)).cell? ⟨Gk, 1, none⟩ = some (.int .i64 kq.t) ∧ (w8.alloc (.cells #[.string ⟨dl.toArray⟩] 9)).cell? ⟨Gk, 2, none⟩ = some (.int .i64 kq.c) := ⟨Br9.out.cell 3, Bk9.out.cell 0, Bk9.out.cell 1, Bk9.out.cell 2⟩
      go_wp2_with (at_builtin; refine wpList_appRg 35 31 5 64 _ _ Try.underlying31 infoSet rfl (by decide) rfl _ _ rfl wr.heap.size _ _ rfl OA.out _ _ (stL ⟨kq, [dl], r.l⟩ (.slice (some ⟨w8.heap.size, 0, none⟩) 1 1)) rfl rfl ?s0 ?s1 ?s2 ?s3 ?s4 ?_)
      case s0 =>
        intro u hu
        simp only [stL, List.mem_cons, List.not_mem_nil, or_false] at hu
        rcases hu with rfl | rfl | rfl | rfl | rfl <;> rfl
      case s1 =>
        intro j u hu
        first
        | exact hu
        | exact cells_box _ #[.string kq.n, .int .i64 kq.t, .int .i64 kq.c, .slice (some ⟨w8.heap.size, 0, none⟩) 1 1, .int .i64 r.l] _ j u hu
      case s2 => (try rw [List.length_map]); unfold maxLen; omega
      case s3 => (try rw [List.length_map]); omega
      case s4 =>
        have := KA.out.size
        simpa using this
      intro v9 w9 hown9 hg9
      have K9b := hide (KA.out.grown hg9 (fun g h => (World.ownsRow.lt OA.out.1 g h).1))
      have D9 : OwnsS w9 wr.heap.size (.slice (some ⟨w8.heap.size, 0, none⟩) 1 1) [dl] := by
        refine World.ownsRow.kept DA.out hg9 ?_
        cases hb : v8.ownBlock with
        | none => exact .inr (by simp [Value.ownBlock])
        | some g => exact .inr (rows_apart OA.out.1 DA.out ty_apart hb)
      have OF := hide (sets_more hO.out ⟨kq, [dl], r.l⟩ (.slice (some ⟨w8.heap.size, 0, none⟩) 1 1) hB4 K9b.out (ownR_mono hown9 hB4) D9)
      have HX9 : Hid ((ss ++ [((⟨kq, [dl], r.l⟩ : St), Value.slice (some ⟨w8.heap.size, 0, none⟩) 1 1)]).map (·.1) = X) := by
        rw [Hid, List.map_append, hXm.out]
        rfl
      clear hown9 hg9 D9 OA KA DA OR9 K9
      go_wp2_with fail
      go_ret
      exact LayEnd.mk _ OF.out HX9.out (KB.out.trans (keep_below K9b.out hB4))
end Go.Proofs.Ytdfhojhljfcolaa
