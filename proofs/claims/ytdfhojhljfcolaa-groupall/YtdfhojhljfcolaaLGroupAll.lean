/- GroupAll answers true, for every input: the walk. -/
import Derived.Test.YtdfhojhljfcolaaGrpLive
import Derived.Test.YtdfhojhljfcolaaGrpN
import Derived.Test.YtdfhojhljfcolaaShapesR
import Derived.Test.YtdfhojhljfcolaaMsgW7
import Derived.Deep.RegionHeld3
namespace Go.Proofs.Ytdfhojhljfcolaa
open Go.RowKit

theorem keys_apart {l : List St} (h : Fine10 l) {i k : Nat} (hi : i < l.length) (hk : k < l.length) (e : l[k].key = l[i].key) : k = i := by
  have h2 := h.keys
  have hi' : i < (l.map (·.key)).length := by rw [List.length_map]; exact hi
  have hk' : k < (l.map (·.key)).length := by rw [List.length_map]; exact hk
  have e2 : (l.map (·.key))[k] = (l.map (·.key))[i] := by rw [List.getElem_map, List.getElem_map]; exact e
  exact (List.getElem_inj h2).1 e2

set_option maxHeartbeats 8000000 in
set_option maxRecDepth 100000 in
theorem GroupAll_walk (v : Value) (l : List Rec) (w : World) (hv : ReadRow w v 5 (l.map recL) ∧ (∀ r ∈ l, RecFine r) ∧ l.length ≤ maxLen) :
    Calls Try.prog 6 #[v] w fun e w' => e = .returned (.bool true) ∧ Keeps w w' := by
  obtain ⟨hrd0, hfine, hlen⟩ := hv
  have hrd : ReadRow w v 5 (l.map recL8) := hrd0
  clear hrd0
  have hsz : ∀ x ∈ l, x.n.size ≤ maxLen ∧ x.d.size ≤ maxLen := fun x hx => ⟨(hfine x hx).1, (hfine x hx).2.1⟩
  clear hfine
  have hfe : fewL l = true → l.length ≤ 60 := fun h => by
    simp only [fewL, Bool.and_eq_true, decide_eq_true_eq] at h
    exact h.2
  have HF := hide (Few_any v l w hrd hlen hsz)
  obtain ⟨a, cap, hvd⟩ := hrd.len
  rw [List.length_map] at hvd
  subst hvd
  go_enter Try.func6, Try.ntmps6
  go_wp2_with fail
  refine (HF.out).mono ?_
  rintro e w1 ⟨rfl, k1⟩
  have K := hide k1
  replace hrd := hrd.keeps k1
  clear k1 HF
  cases hfew : fewL l
  · go_wp2_with fail
    refine (live10_any _).mono ?_
    rintro e wz ⟨rfl, kz⟩
    go_wp2
    go_ret
    exact ⟨rfl, K.out.trans kz⟩
  have h60 := hfe hfew
  clear hfe hfew
  have HFr := hide (From_any _ l w1 hrd (by omega) hsz)
  have hfi := from_fine l
  have hth := fun r h hu => from_there (l := l) (r := r) h hu
  obtain ⟨hn1, hn2⟩ := from_len l
  generalize fromM l = ss at *
  go_wp2_with fail
  refine (HFr.out).mono ?_
  intro e w2 hE
  obtain ⟨vs, rfl, rs, k1⟩ := hE
  replace K := hide (K.out.trans k1)
  have RD := hide (hrd.keeps k1)
  clear k1 HFr hrd
  obtain ⟨sa, cs, hvs⟩ := rs.len
  subst hvs
  have RS := hide rs
  have FI := hide hfi
  clear rs hfi
  go_wp2_with fail
  go_loopw [4] (fun i wr => ∃ j : Nat, j ≤ ss.length ∧ i = .int .i64 j ∧ Keeps w2 wr) (fun i _ => ss.length - (intOf i).toNat)
  case atStart => exact ⟨0, by omega, rfl, Keeps.refl _⟩
  case round =>
    obtain ⟨j, hj, rfl, K2⟩ := hrel
    by_cases hlt : j < ss.length
    · obtain ⟨b, off, cs', he, hb0, hc⟩ := RS.out.at (by omega)
      simp only [Value.slice.injEq, true_and] at he
      obtain ⟨rfl, rfl⟩ := he
      obtain ⟨vd, rd, O1⟩ := hc j hlt
      have HCS := hide hc
      clear hc
      have i2 : (j : Int) < (ss.length : Int) := by omega
      have i0 : (0 : Int) ≤ (j : Int) := by omega
      have hok := FI.out.ok _ (List.getElem_mem hlt)
      have hfin := stOk_fine hok (by have := hn2 _ (List.getElem_mem hlt); unfold maxLen; omega)
      have HCK := fun W (k : Keeps w2 W) => GCheck_any _ ss[j] W ⟨vd, rfl, rd.keeps k⟩ hfin
      rw [hok] at HCK
      replace HCK := hide HCK
      replace O1 := O1.keeps K2
      clear hok hfin rd
      generalize hoo : off + j * 5 = o at *
      generalize hxx : ss[j] = x at *
      obtain ⟨o0, o1, o2, o3, o4, _⟩ := O1
      replace K2 := hide K2
      go_wp2_with fail
      refine (HCK.out _ K2.out).mono ?_
      rintro e w3 ⟨rfl, k3⟩
      replace K2 := hide (K2.out.trans k3)
      clear k3 o0 o1 o2 o3 o4 HCK
      go_wp2_with fail
      go_loopw [5] (fun i wq => ∃ k : Nat, k ≤ j ∧ i = .int .i64 k ∧ Keeps w2 wq) (fun i _ => j - (intOf i).toNat)
      case atStart => exact ⟨0, by omega, rfl, K2.out⟩
      case round =>
        clear K2
        obtain ⟨k, hk, rfl, K2⟩ := hrel
        by_cases hkt : k < j
        · have hk2 : k < ss.length := by omega
          obtain ⟨vd1, _, O1⟩ := HCS.out j hlt
          obtain ⟨vd2, _, O2⟩ := HCS.out k hk2
          replace O1 := O1.keeps K2
          replace O2 := O2.keeps K2
          have hne : ¬ ss[k].key = ss[j].key := fun e => by have := keys_apart FI.out hlt hk2 e; omega
          have i3 : (k : Int) < (ss.length : Int) := by omega
          have i4 : (0 : Int) ≤ (k : Int) := by omega
          have i5 : (k : Int) < (j : Int) := by omega
          rw [hoo, hxx] at O1
          rw [hxx] at hne
          generalize hoo2 : off + k * 5 = o2 at *
          generalize ss[k] = y at *
          have nq := eql_qn y.key x.key
          rw [decide_eq_false hne] at nq
          clear hne
          obtain ⟨p0, p1, p2, _, _, _⟩ := O1
          obtain ⟨q0, q1, q2, _, _, _⟩ := O2
          go_wp2_with fail
          go_region
          go_wp2
          go_roundw
          case rel => exact ⟨k + 1, by omega, by go_num, K2.drew⟩
          case measure => simp [intOf]; omega
        · obtain rfl : k = j := by omega
          go_wp2
          go_roundw
          case rel => exact ⟨k + 1, by omega, by go_num, K2⟩
          case measure => simp [intOf]; omega
    · obtain rfl : j = ss.length := by omega
      go_wp2_with fail
      replace RD := hide (RD.out.keeps K2)
      replace RS := hide (RS.out.keeps K2)
      replace K := hide (K.out.trans K2)
      clear K2
      have hbl : l = [] ∨ 0 < l.length := by
        rcases Nat.eq_zero_or_pos l.length with h | h
        · exact .inl (List.length_eq_zero_iff.1 h)
        · exact .inr h
      go_loopw [6] (fun i wp => ∃ q : Nat, q ≤ l.length ∧ i = .int .i64 q ∧ Keeps wr wp) (fun i _ => l.length - (intOf i).toNat)
      case atStart => exact ⟨0, by omega, rfl, Keeps.refl _⟩
      case round =>
        obtain ⟨q, hq, rfl, K3⟩ := hrel
        by_cases hql : q < l.length
        · obtain ⟨b, off, rfl, hb0, _⟩ := RD.out.parts (by rw [List.length_map]; omega)
          obtain ⟨c0, c1, c2, c3, c4⟩ := row5 (RD.out.keeps K3) hql
          have hbp : b < wr.heap.size := Nat.lt_of_lt_of_le hb0 K3.size
          have i2 : (q : Int) < (l.length : Int) := by omega
          have i0 : (0 : Int) ≤ (q : Int) := by omega
          have hr := hsz _ (List.getElem_mem hql)
          have HRC := fun W => refrcheck_any l[q] W hr.1 hr.2
          have HKY := fun W => Key_any l[q] W hr.1 hr.2
          have hmem : Hid (usedB l[q] = true → ∃ s, s ∈ ss ∧ s.key = keyM l[q] ∧ s.ttl ≤ l[q].l) := fun hu => hth l[q] (List.getElem_mem hql) hu
          clear hr
          generalize hoo : off + q * 5 = o at *
          generalize l[q] = r at *
          simp only [recV] at HRC
          simp only [recV, qnV] at HKY
          replace HRC := hide HRC
          replace HKY := hide HKY
          cases hrok : recOk r
          · go_wp2_with fail
            refine (HRC.out _).mono ?_
            rintro e w4 ⟨rfl, k4⟩
            rw [hrok]
            go_wp2_with fail
            go_roundw
            case rel => exact ⟨q + 1, by omega, by go_num, K3.trans k4⟩
            case measure => simp [intOf]; omega
          by_cases h41 : r.t = 41
          · have h41b : (r.t == 41) = true := by rw [h41]; rfl
            replace h41 := hide h41
            go_wp2_with fail
            refine (HRC.out _).mono ?_
            rintro e w4 ⟨rfl, k4⟩
            rw [hrok]
            have c1' := (Below.cell (p := ⟨b, o + 1, none⟩) k4 hbp).trans c1
            clear c0 c1 c2 c3 c4
            go_wp2_with fail
            go_roundw
            case rel => exact ⟨q + 1, by omega, by go_num, K3.trans k4⟩
            case measure => simp [intOf]; omega
          have h41b : (r.t == 41) = false := beq_eq_false_iff_ne.2 h41
          have hu : usedB r = true := by rw [usedB, hrok, decide_eq_true h41]; rfl
          obtain ⟨s0, hs0, hs1, hs2⟩ := hmem.out hu
          obtain ⟨m, hm, rfl⟩ := List.getElem_of_mem hs0
          clear hs0 hu hmem h41
          go_wp2_with fail
          refine (HRC.out _).mono ?_
          rintro e w4 ⟨rfl, k4⟩
          rw [hrok]
          replace c0 := (Below.cell (p := ⟨b, o, none⟩) k4 hbp).trans c0
          replace c1 := (Below.cell (p := ⟨b, o + 1, none⟩) k4 hbp).trans c1
          replace c2 := (Below.cell (p := ⟨b, o + 2, none⟩) k4 hbp).trans c2
          replace c3 := (Below.cell (p := ⟨b, o + 3, none⟩) k4 hbp).trans c3
          replace c4 := (Below.cell (p := ⟨b, o + 4, none⟩) k4 hbp).trans c4
          have hb4 : b < w4.heap.size := Nat.lt_of_lt_of_le hbp k4.size
          replace K3 := hide (K3.trans k4)
          clear HRC k4
          obtain ⟨g, off2, cs', he, hg0, hc⟩ := RS.out.at (by omega)
          simp only [Value.slice.injEq, true_and] at he
          obtain ⟨rfl, rfl⟩ := he
          have HCS := hide hc
          clear hc
          have HM := hide (And.intro hs1 hs2)
          clear hs1 hs2
          generalize hkq : keyM r = kq at *
          go_wp2_with fail
          go_loopw [7, 8] (fun f i wq => ∃ k : Nat, k ≤ ss.length ∧ i = .int .i64 k ∧ f = .bool (decide (m < k)) ∧ Keeps w4 wq) (fun _ i _ => ss.length - (intOf i).toNat)
          case atStart => exact ⟨0, by omega, rfl, by simp, Keeps.refl _⟩
          case round =>
            obtain ⟨k, hk, rfl, rfl, K4⟩ := hrel
            by_cases hkt : k < ss.length
            · obtain ⟨vd, _, O1⟩ := HCS.out k hkt
              replace O1 := O1.keeps (K3.out.trans K4)
              have hbq : b < wr.heap.size := Nat.lt_of_lt_of_le hb4 K4.size
              have e0 := (Below.cell (p := ⟨b, o, none⟩) K4 hb4).trans c0
              have e1 := (Below.cell (p := ⟨b, o + 1, none⟩) K4 hb4).trans c1
              have e2 := (Below.cell (p := ⟨b, o + 2, none⟩) K4 hb4).trans c2
              have e3 := (Below.cell (p := ⟨b, o + 3, none⟩) K4 hb4).trans c3
              have e4 := (Below.cell (p := ⟨b, o + 4, none⟩) K4 hb4).trans c4
              have i3 : (k : Int) < (ss.length : Int) := by omega
              have i4 : (0 : Int) ≤ (k : Int) := by omega
              have hap := fun (e : ss[k].key = ss[m].key) => keys_apart FI.out hm hkt e
              by_cases hkm : k = m
              · subst hkm
                obtain ⟨hs1, hs2⟩ := HM.out
                clear HM hap
                generalize hoo2 : off2 + k * 5 = o2 at *
                generalize ss[k] = y at *
                have hle : decide (y.ttl ≤ r.l) = true := decide_eq_true hs2
                replace hs2 := hide hs2
                have nq := eql_qn y.key kq
                rw [decide_eq_true hs1] at nq
                replace hs1 := hide hs1
                have HT := hide (fun w' (kk : Keeps wr.drew w') => (by
                  obtain ⟨p0, p1, p2, _, _, _⟩ := O1.keeps (Keeps.trans (Keeps.refl wr).drew kk)
                  exact ⟨p0, p1, p2, (Below.cell (p := ⟨b, o, none⟩) kk hbq).trans e0, (Below.cell (p := ⟨b, o + 1, none⟩) kk hbq).trans e1, (Below.cell (p := ⟨b, o + 2, none⟩) kk hbq).trans e2, (Below.cell (p := ⟨b, o + 3, none⟩) kk hbq).trans e3, (Below.cell (p := ⟨b, o + 4, none⟩) kk hbq).trans e4⟩ : w'.cell? ⟨g, o2, none⟩ = some (.string y.key.n) ∧ w'.cell? ⟨g, o2 + 1, none⟩ = some (.int .i64 y.key.t) ∧ w'.cell? ⟨g, o2 + 2, none⟩ = some (.int .i64 y.key.c) ∧ w'.cell? ⟨b, o, none⟩ = some (.string r.n) ∧ w'.cell? ⟨b, o + 1, none⟩ = some (.int .i64 r.t) ∧ w'.cell? ⟨b, o + 2, none⟩ = some (.int .i64 r.c) ∧ w'.cell? ⟨b, o + 3, none⟩ = some (.int .i64 r.l) ∧ w'.cell? ⟨b, o + 4, none⟩ = some (.string r.d)))
                have HTT := hide (fun w' (kk : Keeps wr.drew w') => (O1.keeps (Keeps.trans (Keeps.refl wr).drew kk)).2.2.2.2.1)
                have T := HT.out _ (Keeps.refl _)
                have KK : Keeps wr.drew wr.drew := Keeps.refl _
                clear O1 e0 e1 e2 e3 e4
                go_wp2_with fail
                go_region_held3 (fun w' => w'.cell? ⟨g, o2, none⟩ = some (.string y.key.n) ∧ w'.cell? ⟨g, o2 + 1, none⟩ = some (.int .i64 y.key.t) ∧ w'.cell? ⟨g, o2 + 2, none⟩ = some (.int .i64 y.key.c) ∧ w'.cell? ⟨b, o, none⟩ = some (.string r.n) ∧ w'.cell? ⟨b, o + 1, none⟩ = some (.int .i64 r.t) ∧ w'.cell? ⟨b, o + 2, none⟩ = some (.int .i64 r.c) ∧ w'.cell? ⟨b, o + 3, none⟩ = some (.int .i64 r.l) ∧ w'.cell? ⟨b, o + 4, none⟩ = some (.string r.d)) (exact T) ((go_at_call 11; refine (HKY.out _).mono ?_; rintro e w5 ⟨rfl, k5⟩; replace KK := Keeps.trans KK k5; replace T := HT.out _ KK; clear k5))
                have tt := HTT.out _ KK
                obtain ⟨t0, t1, t2, t3, t4, t5, t6, t7⟩ := T
                go_wp2_with fail
                go_region
                go_wp2
                go_roundw
                case rel => exact ⟨k + 1, by omega, by go_num, by simp, (K4.drew.trans KK).drew⟩
                case measure => simp [intOf]; omega
              · have hne : ¬ ss[k].key = kq := fun e => hkm (hap (e.trans HM.out.1.symm))
                clear HM hap
                generalize hoo2 : off2 + k * 5 = o2 at *
                generalize ss[k] = y at *
                have nq := eql_qn y.key kq
                rw [decide_eq_false hne] at nq
                clear hne
                have HT := hide (fun w' (kk : Keeps wr.drew w') => (by
                  obtain ⟨p0, p1, p2, _, _, _⟩ := O1.keeps (Keeps.trans (Keeps.refl wr).drew kk)
                  exact ⟨p0, p1, p2, (Below.cell (p := ⟨b, o, none⟩) kk hbq).trans e0, (Below.cell (p := ⟨b, o + 1, none⟩) kk hbq).trans e1, (Below.cell (p := ⟨b, o + 2, none⟩) kk hbq).trans e2, (Below.cell (p := ⟨b, o + 3, none⟩) kk hbq).trans e3, (Below.cell (p := ⟨b, o + 4, none⟩) kk hbq).trans e4⟩ : w'.cell? ⟨g, o2, none⟩ = some (.string y.key.n) ∧ w'.cell? ⟨g, o2 + 1, none⟩ = some (.int .i64 y.key.t) ∧ w'.cell? ⟨g, o2 + 2, none⟩ = some (.int .i64 y.key.c) ∧ w'.cell? ⟨b, o, none⟩ = some (.string r.n) ∧ w'.cell? ⟨b, o + 1, none⟩ = some (.int .i64 r.t) ∧ w'.cell? ⟨b, o + 2, none⟩ = some (.int .i64 r.c) ∧ w'.cell? ⟨b, o + 3, none⟩ = some (.int .i64 r.l) ∧ w'.cell? ⟨b, o + 4, none⟩ = some (.string r.d)))
                have HTT := hide (fun w' (kk : Keeps wr.drew w') => (O1.keeps (Keeps.trans (Keeps.refl wr).drew kk)).2.2.2.2.1)
                have T := HT.out _ (Keeps.refl _)
                have KK : Keeps wr.drew wr.drew := Keeps.refl _
                clear O1 e0 e1 e2 e3 e4
                go_wp2_with fail
                go_region_held3 (fun w' => w'.cell? ⟨g, o2, none⟩ = some (.string y.key.n) ∧ w'.cell? ⟨g, o2 + 1, none⟩ = some (.int .i64 y.key.t) ∧ w'.cell? ⟨g, o2 + 2, none⟩ = some (.int .i64 y.key.c) ∧ w'.cell? ⟨b, o, none⟩ = some (.string r.n) ∧ w'.cell? ⟨b, o + 1, none⟩ = some (.int .i64 r.t) ∧ w'.cell? ⟨b, o + 2, none⟩ = some (.int .i64 r.c) ∧ w'.cell? ⟨b, o + 3, none⟩ = some (.int .i64 r.l) ∧ w'.cell? ⟨b, o + 4, none⟩ = some (.string r.d)) (exact T) ((go_at_call 11; refine (HKY.out _).mono ?_; rintro e w5 ⟨rfl, k5⟩; replace KK := Keeps.trans KK k5; replace T := HT.out _ KK; clear k5))
                clear T HT HTT
                go_wp2_with fail
                go_roundw
                case rel => exact ⟨k + 1, by omega, by go_num, by rw [decide_eq_decide.2 (show m < k ↔ m < k + 1 by omega)], K4.drew.trans KK⟩
                case measure => simp [intOf]; omega
            · obtain rfl : k = ss.length := by omega
              have hmt : decide (m < ss.length) = true := decide_eq_true hm
              go_wp2_with fail
              go_roundw
              case rel => exact ⟨q + 1, by omega, by go_num, K3.out.trans K4⟩
              case measure => simp [intOf]; omega
        · obtain rfl : q = l.length := by omega
          go_wp2_with fail
          refine (live10_any _).mono ?_
          rintro e wz ⟨rfl, kz⟩
          go_wp2
          go_ret
          exact ⟨rfl, (K.out.trans K3).trans kz⟩
end Go.Proofs.Ytdfhojhljfcolaa
