/- The document's Flat of a set. No condition but lengths. -/
import Derived.Test.YtdfhojhljfcolaaGrpR2
import Derived.Test.YtdfhojhljfcolaaGrp4
namespace Go.Proofs.Ytdfhojhljfcolaa
open Go.RowKit

set_option maxHeartbeats 8000000 in
set_option maxRecDepth 100000 in
theorem refFlat_any (v : Value) (s : St) (ttl turn : Int) (w : World) (hv : StAt w v s) (hf : StFine s) (hsm : s.ds.length ≤ 1000000) :
    Calls Try.prog 21 #[v, .int .i64 ttl, .int .i64 turn] w fun e w' => RecsEnd w (flatM s ttl turn) e w' := by
  have HC := hide (fun W (k : Keeps w W) => refGCheck_any v s W (hv.keeps k) hf)
  obtain ⟨vd, rfl, hd⟩ := hv
  obtain ⟨a, cap, hvd⟩ := hd.len
  subst hvd
  have HFl := hide (show flatM s ttl turn = if stOk s && decide (0 ≤ ttl ∧ ttl ≤ 2147483647) && decide (0 ≤ turn) then (turned s.ds turn.toNat).map (oneM s.key ttl) else [] from rfl)
  have B := hide (Blk.made w #[.string s.key.n, .int .i64 s.key.t, .int .i64 s.key.c, .slice a s.ds.length cap, .int .i64 s.ttl] 35)
  have K := hide ((Keeps.refl w).alloc (.cells #[.string s.key.n, .int .i64 s.key.t, .int .i64 s.key.c, .slice a s.ds.length cap, .int .i64 s.ttl] 35))
  have hnz : Hid (stOk s = true → 0 < s.ds.length) := fun h => List.length_pos_iff.2 (stOk_parts.1 h).1
  generalize stOk s = ok at *
  generalize flatM s ttl turn = R at *
  go_enter Try.func21, Try.ntmps21
  go_upto_region 1 with fail
  generalize w.alloc (.cells #[.string s.key.n, .int .i64 s.key.t, .int .i64 s.key.c, .slice a s.ds.length cap, .int .i64 s.ttl] 35) = W at *
  generalize hGw : w.heap.size = G at *
  obtain ⟨b0, b1, b2, b3, b4, _⟩ := B.out.five_cells
  go_wp2_with fail
  refine (HC.out _ K.out).mono ?_
  rintro e w1 ⟨rfl, k1⟩
  replace B := hide (B.out.keeps k1)
  replace K := hide (K.out.trans k1)
  clear k1 HC b0 b1 b2 b3 b4
  have HNo : Hid (∀ w', R = [] → Keeps w w' → RecsEnd w R (.returned (.slice none 0 0)) w') := fun w' h k => by rw [h]; exact RecsEnd.mk ReadRow.nil k
  cases ok
  · have HE : Hid (R = []) := by rw [Hid, HFl.out]; simp
    go_wp2
    go_ret
    exact HNo.out _ HE.out K.out
  by_cases t0 : ttl < 0
  · have HE : Hid (R = []) := by rw [Hid, HFl.out, show decide (0 ≤ ttl ∧ ttl ≤ 2147483647) = false from decide_eq_false (by omega)]; simp
    go_wp2
    go_ret
    exact HNo.out _ HE.out K.out
  by_cases t1 : 2147483648 ≤ ttl
  · have HE : Hid (R = []) := by rw [Hid, HFl.out, show decide (0 ≤ ttl ∧ ttl ≤ 2147483647) = false from decide_eq_false (by omega)]; simp
    go_wp2
    go_ret
    exact HNo.out _ HE.out K.out
  by_cases t2 : turn < 0
  · have HE : Hid (R = []) := by rw [Hid, HFl.out, show decide (0 ≤ turn) = false from decide_eq_false (by omega)]; simp
    go_wp2
    go_ret
    exact HNo.out _ HE.out K.out
  have HE : Hid (R = (turned s.ds turn.toNat).map (oneM s.key ttl)) := by
    rw [Hid, HFl.out, show decide (0 ≤ ttl ∧ ttl ≤ 2147483647) = true from decide_eq_true (by omega), show decide (0 ≤ turn) = true from decide_eq_true (by omega)]
    simp
  have hpos := hnz.out rfl
  clear HNo HFl hnz
  obtain ⟨tn, rfl⟩ : ∃ tn : Nat, turn = tn := ⟨turn.toNat, by omega⟩
  have hrem : (tn : Int).tmod (s.ds.length : Int) = ((tn % s.ds.length : Nat) : Int) := by
    rw [Int.tmod_eq_emod_of_nonneg (by omega)]; rfl
  have hremI : (tn : Int) % (s.ds.length : Int) = ((tn % s.ds.length : Nat) : Int) := rfl
  have hfl := Nat.mod_lt tn hpos
  obtain ⟨b0, b1, b2, b3, b4, glt⟩ := B.out.five_cells
  generalize hff : tn % s.ds.length = f at *
  have hGH : G < w1.heap.size := glt
  have hwl : w.heap.size ≤ w1.heap.size := K.out.size
  obtain ⟨H, hH⟩ : ∃ H, H = w1.heap.size := ⟨_, rfl⟩
  rw [← hH] at hGH hwl
  have hs0 : H ≤ w1.heap.size := by omega
  replace hH := hide hH
  have HD := hide hd
  clear hd
  go_wp2_with fail
  clear b0 b1 b2 b3 b4 glt
  go_loopw [7, 8, 9] (fun v i _ wr => FlatRel w s ttl tn G H a cap v i wr) (fun _ i _ _ => s.ds.length - (intOf i).toNat)
  case atStart => exact ⟨0, by omega, rfl, by simpa using OwnsR.nil _ _ _ _, B.out, K.out, hs0⟩
  case round =>
    clear B K hs0
    obtain ⟨j, hj, rfl, hown, B, K, hs⟩ := hrel
    replace B := hide B
    replace K := hide K
    by_cases hlt : j < s.ds.length
    · have i2 : (j : Int) < (s.ds.length : Int) := by omega
      have i0 : (0 : Int) ≤ (j : Int) := by omega
      obtain ⟨b, off, cap', he, hb0, hcell0, _⟩ := HD.out.parts (by omega)
      simp only [Value.slice.injEq, true_and] at he
      have hb : b < wr.heap.size := Nat.lt_of_lt_of_le hb0 K.out.size
      have hbH : b < H := by omega
      have hcell := fun i (h : i < s.ds.length) => (Below.cell K.out (p := ⟨b, off + i, none⟩) hb0).trans (hcell0 i h)
      clear hcell0 hb0
      obtain ⟨rfl, rfl⟩ := he
      obtain ⟨k, hk⟩ : ∃ k, (f + j) % s.ds.length = k := ⟨_, rfl⟩
      have hkl : k < s.ds.length := by rw [← hk]; exact Nat.mod_lt _ hpos
      have hc := hcell k hkl
      have HST := hide (turned_step s.ds tn j k hlt (by rw [hff]; exact hk) hkl)
      have c1 : IntKind.i64.wrap ((f : Int) + (j : Int)) = (f : Int) + (j : Int) := by rw [IntKind.wrap_i64]; omega
      have c2 : (0 : Int) ≤ (f : Int) + (j : Int) := by omega
      have c3 : ((f : Int) + (j : Int)) % (s.ds.length : Int) = (k : Int) := by rw [← hk]; simp
      have c3' : ((f : Int) + (j : Int)).tmod (s.ds.length : Int) = (k : Int) := by rw [Int.tmod_eq_emod_of_nonneg c2]; exact c3
      have c4 : (0 : Int) ≤ (k : Int) := by omega
      have c6 : ¬ s.ds = [] := List.length_pos_iff.1 hpos
      have c7 : ¬ s.ds.length = 0 := by omega
      have c5 : (k : Int) < (s.ds.length : Int) := by omega
      generalize hoo : off + k = o at hc
      generalize s.ds[k] = d at *
      unfold sv at hc
      have HT : Hid (∀ w', Keeps wr.drew.drew w' → w'.cell? ⟨G, 0, none⟩ = some (.string s.key.n) ∧ w'.cell? ⟨G, 1, none⟩ = some (.int .i64 s.key.t) ∧ w'.cell? ⟨G, 2, none⟩ = some (.int .i64 s.key.c) ∧ w'.cell? ⟨G, 3, none⟩ = some (.slice (some ⟨b, off, none⟩) s.ds.length cap) ∧ w'.cell? ⟨b, o, none⟩ = some (.string ⟨d.toArray⟩)) := fun w' k => ⟨(B.out.drew.drew.keeps k).cell 0, (B.out.drew.drew.keeps k).cell 1, (B.out.drew.drew.keeps k).cell 2, (B.out.drew.drew.keeps k).cell 3, (Below.cell k (p := ⟨b, o, none⟩) hb).trans hc⟩
      have HT5 : Hid (∀ ww w', Keeps wr.drew.drew ww → Below H ww w' → w'.cell? ⟨G, 0, none⟩ = some (.string s.key.n) ∧ w'.cell? ⟨G, 1, none⟩ = some (.int .i64 s.key.t) ∧ w'.cell? ⟨G, 2, none⟩ = some (.int .i64 s.key.c) ∧ w'.cell? ⟨G, 3, none⟩ = some (.slice (some ⟨b, off, none⟩) s.ds.length cap) ∧ w'.cell? ⟨b, o, none⟩ = some (.string ⟨d.toArray⟩)) := fun ww w' k q => by
        obtain ⟨q0, q1, q2, q3, q4⟩ := HT.out ww k
        exact ⟨(q.cell (p := ⟨G, 0, none⟩) hGH).trans q0, (q.cell (p := ⟨G, 1, none⟩) hGH).trans q1, (q.cell (p := ⟨G, 2, none⟩) hGH).trans q2, (q.cell (p := ⟨G, 3, none⟩) hGH).trans q3, (q.cell (p := ⟨b, o, none⟩) hbH).trans q4⟩
      have T := HT.out _ (Keeps.refl _)
      have KK : Keeps wr.drew.drew wr.drew.drew := Keeps.refl _
      have HW := hide hown.drew.drew
      have HL0 := hide (show ((((turned s.ds tn).take j).map (oneM s.key ttl)).map recL8).length = j by simp [turned_length]; omega)
      have HL2 : Hid (((((turned s.ds tn).take j).map (oneM s.key ttl)).map recL8).length + 1 ≤ maxLen) := by rw [Hid, HL0.out]; unfold maxLen; omega
      have HL3 : Hid ((((((turned s.ds tn).take j).map (oneM s.key ttl)).map recL8).length + 1) * 56 ≤ 140737488355328) := by rw [Hid, HL0.out]; omega
      have g3 := B.out.cell 3
      simp only [List.getElem?_toArray, List.getElem?_cons_zero, List.getElem?_cons_succ] at g3
      clear hcell hown
      generalize hLL : (((turned s.ds tn).take j).map (oneM s.key ttl)).map recL8 = LL at *
      go_wp2_with fail
      go_region
      go_upto_region 8 with fail
      clear g3
      go_region_held3 (fun w' => w'.cell? ⟨G, 0, none⟩ = some (.string s.key.n) ∧ w'.cell? ⟨G, 1, none⟩ = some (.int .i64 s.key.t) ∧ w'.cell? ⟨G, 2, none⟩ = some (.int .i64 s.key.c) ∧ w'.cell? ⟨G, 3, none⟩ = some (.slice (some ⟨b, off, none⟩) s.ds.length cap) ∧ w'.cell? ⟨b, o, none⟩ = some (.string ⟨d.toArray⟩)) (first | exact T | exact HT.out _ (KK.alloc _) | exact HT5.out _ _ (KK.alloc _) hb5) ((first | (refine step_appR 29 22 5 56 (recV noRec) Try.underlying22 Try.infoRR rfl (by decide) rfl _ _ rfl H _ _ rfl ((HW.out.below KK).alloc _) _ _ (recL8 ⟨s.key.n, s.key.t, s.key.c, ttl, ⟨d.toArray⟩⟩) rfl rfl (recL8_ones _) (fun j u hu => cells_box _ #[.string s.key.n, .int .i64 s.key.t, .int .i64 s.key.c, .int .i64 ttl, .string ⟨d.toArray⟩] _ j u hu) HL2.out HL3.out (Nat.le_trans hs (KK.alloc _).size) ?_; intro v5 w5 hown5 hb5)))
      have B5 := hide (show Blk w5 G _ _ from (hb5.block G hGH).trans ((B.out.drew.drew.keeps KK).alloc _))
      have K5 := hide (show Keeps w w5 from Below.trans ((K.out.drew.drew.trans KK).alloc _) (Below.mono hb5 hwl))
      have hs5 : H ≤ w5.heap.size := Nat.le_trans (Nat.le_trans hs (KK.alloc _).size) hb5.size
      have HN : Hid (LL ++ [recL8 ⟨s.key.n, s.key.t, s.key.c, ttl, ⟨d.toArray⟩⟩] = ((((turned s.ds tn).take (j + 1)).map (oneM s.key ttl)).map recL8)) := by
        rw [Hid, HST.out, List.map_append, List.map_append, hLL]
        rfl
      replace hown5 := hide (HN.out ▸ hown5)
      clear T HT HT5 KK HW HL0 HL2 HL3 B K HN hb5
      go_wp2
      go_roundw
      case rel => exact ⟨j + 1, by omega, by go_num, hown5.out, B5.out, K5.out, hs5⟩
      case measure => simp [intOf]; omega
    · obtain rfl : j = s.ds.length := by omega
      have HN : Hid (((turned s.ds tn).take s.ds.length).map (oneM s.key ttl) = R) := by
        rw [Hid, HE.out, List.take_of_length_le (by rw [turned_length]; exact Nat.le_refl _)]
        simp
      have HR := hide (HN.out ▸ hown.read)
      have g3 := B.out.cell 3
      simp only [List.getElem?_toArray, List.getElem?_cons_zero, List.getElem?_cons_succ] at g3
      clear hown HD HN
      go_wp2
      go_ret
      exact RecsEnd.mk HR.out K.out
end Go.Proofs.Ytdfhojhljfcolaa
