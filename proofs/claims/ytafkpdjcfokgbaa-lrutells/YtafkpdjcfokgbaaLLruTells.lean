/- LruTells answers true, for every input: the walk. -/
import Derived.Test.YtafkpdjcfokgbaaLruLive
import Derived.Test.YtafkpdjcfokgbaaLruM
import Derived.Test.YtafkpdjcfokgbaaShapesI
import Derived.Test.YtafkpdjcfokgbaaShapesS
namespace Go.Proofs.Ytafkpdjcfokgbaa
open Go.RowKit

set_option maxHeartbeats 16000000 in
set_option maxRecDepth 100000 in
theorem LruTells_nil (v : Value) (l : List Int) (k : Int) (u : Value) (t : List (List UInt8)) (w : World) (hv : IsInts w v l) (hk : -9223372036854775808 ≤ k ∧ k ≤ 9223372036854775807) (hu : IsStrs w u t) (h0 : l = []) (g1 : ¬ (200 : Int) < (l.length : Int)) (g2 : ¬ (200 : Int) < (t.length : Int)) :
    Calls Try.prog 3 #[v, .int .i64 k, u] w fun e w' => e = .returned (.bool true) ∧ Keeps w w' := by
  obtain ⟨hv, hvi, _⟩ := hv
  obtain ⟨hu, _, hux⟩ := hu
  replace hu := readS_row hu
  obtain ⟨a, cap, h1⟩ := hv.len
  rw [List.length_map] at h1
  subst h1
  obtain ⟨a2, cap2, h2⟩ := hu.len
  rw [List.length_map] at h2
  subst h2
  subst h0
  clear g1
  have hl : ([] : List Int).length ≤ 1000000 := by decide
  have ht : t.length ≤ 1000000 := by omega
  have HO := hide (fun (W : World) (h : ReadRow W (.slice a 0 cap) 1 (([] : List Int).map iv)) => (show Calls Try.prog 10 #[.slice a 0 cap] W fun e w' => e = .returned (.tuple #[.int .i64 0, .bool false]) ∧ Keeps W w' by exact Oldest_i _ [] W h))
  have hz : ¬ (0 : Int) < (0 : Int) := by decide
  have RV := hide hv
  have RU := hide hu
  replace hvi := hide hvi
  replace hux := hide (show ∀ x ∈ t, kin_t x from hux)
  have K := hide (Keeps.refl w)
  have HT1 := hide (touch_len ([] : List Int) k)
  have HT2 := hide (touch_len t [])
  have HD1 := hide (Lr.drop_len ([] : List Int) k)
  clear hv hu
  go_enter Try.func3, Try.ntmps3
  go_wp2_with fail
  refine (Cut_i _ ([] : List Int) k _ (RV.out.keeps K.out) hl hk).mono ?_
  intro e w1 hE
  obtain ⟨va, vb, rfl, oa, ob, k1⟩ := hE
  replace K := hide (K.out.trans k1)
  have RA := hide (And.intro oa.read ob.read)
  clear oa ob
  clear k1
  go_wp2_with fail
  refine (refCut13_any _ ([] : List Int) k _ (RV.out.keeps K.out) hl hk).mono ?_
  intro e w2 hE
  obtain ⟨vc, vd, rfl, oc, od, k1⟩ := hE
  replace K := hide (K.out.trans k1)
  have RC := hide (And.intro oc od)
  replace RA := hide (And.intro (RA.out.1.keeps k1) (RA.out.2.keeps k1))
  clear oc od
  clear k1
  go_wp2_with fail
  refine (HO.out _ (RV.out.keeps K.out)).mono ?_
  rintro e w3 ⟨rfl, k1⟩
  replace K := hide (K.out.trans k1)
  replace RA := hide (And.intro (RA.out.1.keeps k1) (RA.out.2.keeps k1))
  replace RC := hide (And.intro (RC.out.1.keeps k1) (RC.out.2.keeps k1))
  clear k1
  clear HO
  go_wp2_with fail
  refine (Touch_i _ ([] : List Int) k _ (RV.out.keeps K.out) hl).mono ?_
  intro e w4 hE
  obtain ⟨v1, rfl, o1, k1⟩ := hE
  replace K := hide (K.out.trans k1)
  replace RA := hide (And.intro (RA.out.1.keeps k1) (RA.out.2.keeps k1))
  replace RC := hide (And.intro (RC.out.1.keeps k1) (RC.out.2.keeps k1))
  have R1 := hide o1.read
  clear o1
  clear k1
  go_wp2_with fail
  refine (refTouch13_any _ ([] : List Int) k _ (RV.out.keeps K.out) hl).mono ?_
  intro e w5 hE
  obtain ⟨v2, rfl, o2, k1⟩ := hE
  replace K := hide (K.out.trans k1)
  replace RA := hide (And.intro (RA.out.1.keeps k1) (RA.out.2.keeps k1))
  replace RC := hide (And.intro (RC.out.1.keeps k1) (RC.out.2.keeps k1))
  replace R1 := hide (R1.out.keeps k1)
  have R2 := hide o2.read
  clear o2
  clear k1
  go_wp2_with fail
  refine (refSame13_any v1 v2 _ _ _ R1.out R2.out (by have := HT1.out; omega)).mono ?_
  rintro e w6 ⟨rfl, k1⟩
  rw [decide_eq_true rfl]
  replace K := hide (K.out.trans k1)
  replace RA := hide (And.intro (RA.out.1.keeps k1) (RA.out.2.keeps k1))
  replace RC := hide (And.intro (RC.out.1.keeps k1) (RC.out.2.keeps k1))
  clear R1 R2
  clear k1
  go_wp2_with fail
  refine (Drop_i _ ([] : List Int) k _ (RV.out.keeps K.out) hl).mono ?_
  intro e w7 hE
  obtain ⟨v1, rfl, o1, k1⟩ := hE
  replace K := hide (K.out.trans k1)
  replace RA := hide (And.intro (RA.out.1.keeps k1) (RA.out.2.keeps k1))
  replace RC := hide (And.intro (RC.out.1.keeps k1) (RC.out.2.keeps k1))
  have R1 := hide o1.read
  clear o1
  clear k1
  go_wp2_with fail
  refine (refDrop13_any _ ([] : List Int) k _ (RV.out.keeps K.out) hl).mono ?_
  intro e w8 hE
  obtain ⟨v2, rfl, o2, k1⟩ := hE
  replace K := hide (K.out.trans k1)
  replace RA := hide (And.intro (RA.out.1.keeps k1) (RA.out.2.keeps k1))
  replace RC := hide (And.intro (RC.out.1.keeps k1) (RC.out.2.keeps k1))
  replace R1 := hide (R1.out.keeps k1)
  have R2 := hide o2.read
  clear o2
  clear k1
  go_wp2_with fail
  refine (refSame13_any v1 v2 _ _ _ R1.out R2.out (by have := HD1.out; omega)).mono ?_
  rintro e w9 ⟨rfl, k1⟩
  rw [decide_eq_true rfl]
  replace K := hide (K.out.trans k1)
  replace RA := hide (And.intro (RA.out.1.keeps k1) (RA.out.2.keeps k1))
  replace RC := hide (And.intro (RC.out.1.keeps k1) (RC.out.2.keeps k1))
  clear R1 R2
  clear k1
  go_wp2_with fail
  refine (refSame13_any va vc _ _ _ RA.out.1 RC.out.1 (by rw [List.length_drop]; omega)).mono ?_
  rintro e w10 ⟨rfl, k1⟩
  rw [decide_eq_true rfl]
  replace K := hide (K.out.trans k1)
  replace RA := hide (And.intro (RA.out.1.keeps k1) (RA.out.2.keeps k1))
  replace RC := hide (And.intro (RC.out.1.keeps k1) (RC.out.2.keeps k1))
  clear k1
  go_wp2_with fail
  refine (refSame13_any vb vd _ _ _ RA.out.2 RC.out.2 (by rw [List.length_take]; omega)).mono ?_
  rintro e w11 ⟨rfl, k1⟩
  rw [decide_eq_true rfl]
  replace K := hide (K.out.trans k1)
  clear RA RC
  clear k1
  go_wp2_with fail
  refine (Check_i _ ([] : List Int) _ (RV.out.keeps K.out) hl hvi.out).mono ?_
  rintro e w12 ⟨rfl, k1⟩
  rw [show decide (List.Nodup ([] : List Int)) = true by decide]
  replace K := hide (K.out.trans k1)
  clear k1
  go_wp2_with fail
  refine (refCheck13_i _ ([] : List Int) _ (RV.out.keeps K.out) (by simp)).mono ?_
  rintro e w13 ⟨rfl, k1⟩
  rw [show decide (List.Nodup ([] : List Int)) = true by decide]
  replace K := hide (K.out.trans k1)
  clear k1
  go_wp2_with fail
  refine (Check_t _ t _ (RU.out.keeps K.out) ht hux.out).mono ?_
  rintro e w14 ⟨rfl, k1⟩
  replace K := hide (K.out.trans k1)
  clear k1
  go_wp2_with fail
  refine (refCheck13_t _ t _ (RU.out.keeps K.out) (by omega)).mono ?_
  rintro e w15 ⟨rfl, k1⟩
  replace K := hide (K.out.trans k1)
  clear k1
  generalize decide t.Nodup = D2
  go_wp2_with fail
  refine (Touch_t _ t [] _ (RU.out.keeps K.out) ht).mono ?_
  intro e w16 hE
  obtain ⟨v1, rfl, o1, k1⟩ := hE
  replace K := hide (K.out.trans k1)
  have R1 := hide (row_readS o1.read)
  clear o1
  clear k1
  go_wp2_with fail
  refine (refTouchT_any _ t [] _ (RU.out.keeps K.out) ht).mono ?_
  intro e w17 hE
  obtain ⟨v2, rfl, o2, k1⟩ := hE
  replace K := hide (K.out.trans k1)
  replace R1 := hide (R1.out.keeps k1)
  have R2 := hide (row_readS o2.read)
  clear o2
  clear k1
  go_wp2_with fail
  refine (texts_any v1 v2 _ _ _ R1.out R2.out (by have := HT2.out; omega)).mono ?_
  rintro e w18 ⟨rfl, k1⟩
  rw [beq_self_eq_true]
  replace K := hide (K.out.trans k1)
  clear R1 R2
  clear k1
  go_wp2_with fail
  refine (live13_any _).mono ?_
  rintro e w19 ⟨rfl, k1⟩
  replace K := hide (K.out.trans k1)
  clear k1
  go_wp2
  go_ret
  exact ⟨rfl, K.out⟩
set_option maxHeartbeats 16000000 in
set_option maxRecDepth 100000 in
theorem LruTells_cons (v : Value) (l : List Int) (k : Int) (u : Value) (t : List (List UInt8)) (w : World) (hv : IsInts w v l) (hk : -9223372036854775808 ≤ k ∧ k ≤ 9223372036854775807) (hu : IsStrs w u t) (x : Int) (h0 : l.head? = some x) (g1 : ¬ (200 : Int) < (l.length : Int)) (g2 : ¬ (200 : Int) < (t.length : Int)) :
    Calls Try.prog 3 #[v, .int .i64 k, u] w fun e w' => e = .returned (.bool true) ∧ Keeps w w' := by
  obtain ⟨hv, hvi, _⟩ := hv
  obtain ⟨hu, _, hux⟩ := hu
  replace hu := readS_row hu
  obtain ⟨a, cap, h1⟩ := hv.len
  rw [List.length_map] at h1
  subst h1
  obtain ⟨a2, cap2, h2⟩ := hu.len
  rw [List.length_map] at h2
  subst h2
  have hl : l.length ≤ 1000000 := by omega
  have ht : t.length ≤ 1000000 := by omega
  have hz : (0 : Int) < (l.length : Int) := by
    cases l with
    | nil => simp at h0
    | cons y l => rw [List.length_cons]; omega
  have HO := hide (fun (W : World) (v : Value) (h : ReadRow W v 1 (l.map iv)) => (show Calls Try.prog 10 #[v] W fun e w' => e = .returned (.tuple #[.int .i64 x, .bool true]) ∧ Keeps W w' by
    cases l with
    | nil => simp at h0
    | cons y l =>
      simp at h0
      subst h0
      exact Oldest_i _ (y :: l) W h))
  obtain ⟨b, off, rfl, _, _⟩ := hv.parts (by rw [List.length_map]; omega)
  have hc0 : Hid (w.cell? ⟨b, off, none⟩ = some (.int .i64 x)) := by
    have := row1i (j := 0) hv (by omega)
    have e : l[0]'(by omega) = x := by
      cases l with
      | nil => simp at h0
      | cons y l => simpa using h0
    rw [e] at this
    exact this
  have RV := hide hv
  have RU := hide hu
  replace hvi := hide hvi
  replace hux := hide (show ∀ x ∈ t, kin_t x from hux)
  have K := hide (Keeps.refl w)
  have HT1 := hide (touch_len l k)
  have HT2 := hide (touch_len t [])
  have HD1 := hide (Lr.drop_len l k)
  clear hv hu h0
  go_enter Try.func3, Try.ntmps3
  go_wp2_with fail
  refine (Cut_i _ l k _ (RV.out.keeps K.out) hl hk).mono ?_
  intro e w1 hE
  obtain ⟨va, vb, rfl, oa, ob, k1⟩ := hE
  replace K := hide (K.out.trans k1)
  have RA := hide (And.intro oa.read ob.read)
  clear oa ob
  clear k1
  go_wp2_with fail
  refine (refCut13_any _ l k _ (RV.out.keeps K.out) hl hk).mono ?_
  intro e w2 hE
  obtain ⟨vc, vd, rfl, oc, od, k1⟩ := hE
  replace K := hide (K.out.trans k1)
  have RC := hide (And.intro oc od)
  replace RA := hide (And.intro (RA.out.1.keeps k1) (RA.out.2.keeps k1))
  clear oc od
  clear k1
  go_wp2_with fail
  refine (HO.out _ _ (RV.out.keeps K.out)).mono ?_
  rintro e w3 ⟨rfl, k1⟩
  replace K := hide (K.out.trans k1)
  replace RA := hide (And.intro (RA.out.1.keeps k1) (RA.out.2.keeps k1))
  replace RC := hide (And.intro (RC.out.1.keeps k1) (RC.out.2.keeps k1))
  have c0 := (Below.cell K.out (World.block_lt_of_cell? w _ hc0.out)).trans hc0.out
  clear k1
  clear HO hc0
  go_wp2_with fail
  refine (Touch_i _ l k _ (RV.out.keeps K.out) hl).mono ?_
  intro e w4 hE
  obtain ⟨v1, rfl, o1, k1⟩ := hE
  replace K := hide (K.out.trans k1)
  replace RA := hide (And.intro (RA.out.1.keeps k1) (RA.out.2.keeps k1))
  replace RC := hide (And.intro (RC.out.1.keeps k1) (RC.out.2.keeps k1))
  have R1 := hide o1.read
  clear o1
  clear k1
  clear c0
  go_wp2_with fail
  refine (refTouch13_any _ l k _ (RV.out.keeps K.out) hl).mono ?_
  intro e w5 hE
  obtain ⟨v2, rfl, o2, k1⟩ := hE
  replace K := hide (K.out.trans k1)
  replace RA := hide (And.intro (RA.out.1.keeps k1) (RA.out.2.keeps k1))
  replace RC := hide (And.intro (RC.out.1.keeps k1) (RC.out.2.keeps k1))
  replace R1 := hide (R1.out.keeps k1)
  have R2 := hide o2.read
  clear o2
  clear k1
  go_wp2_with fail
  refine (refSame13_any v1 v2 _ _ _ R1.out R2.out (by have := HT1.out; omega)).mono ?_
  rintro e w6 ⟨rfl, k1⟩
  rw [decide_eq_true rfl]
  replace K := hide (K.out.trans k1)
  replace RA := hide (And.intro (RA.out.1.keeps k1) (RA.out.2.keeps k1))
  replace RC := hide (And.intro (RC.out.1.keeps k1) (RC.out.2.keeps k1))
  clear R1 R2
  clear k1
  go_wp2_with fail
  refine (Drop_i _ l k _ (RV.out.keeps K.out) hl).mono ?_
  intro e w7 hE
  obtain ⟨v1, rfl, o1, k1⟩ := hE
  replace K := hide (K.out.trans k1)
  replace RA := hide (And.intro (RA.out.1.keeps k1) (RA.out.2.keeps k1))
  replace RC := hide (And.intro (RC.out.1.keeps k1) (RC.out.2.keeps k1))
  have R1 := hide o1.read
  clear o1
  clear k1
  go_wp2_with fail
  refine (refDrop13_any _ l k _ (RV.out.keeps K.out) hl).mono ?_
  intro e w8 hE
  obtain ⟨v2, rfl, o2, k1⟩ := hE
  replace K := hide (K.out.trans k1)
  replace RA := hide (And.intro (RA.out.1.keeps k1) (RA.out.2.keeps k1))
  replace RC := hide (And.intro (RC.out.1.keeps k1) (RC.out.2.keeps k1))
  replace R1 := hide (R1.out.keeps k1)
  have R2 := hide o2.read
  clear o2
  clear k1
  go_wp2_with fail
  refine (refSame13_any v1 v2 _ _ _ R1.out R2.out (by have := HD1.out; omega)).mono ?_
  rintro e w9 ⟨rfl, k1⟩
  rw [decide_eq_true rfl]
  replace K := hide (K.out.trans k1)
  replace RA := hide (And.intro (RA.out.1.keeps k1) (RA.out.2.keeps k1))
  replace RC := hide (And.intro (RC.out.1.keeps k1) (RC.out.2.keeps k1))
  clear R1 R2
  clear k1
  go_wp2_with fail
  refine (refSame13_any va vc _ _ _ RA.out.1 RC.out.1 (by rw [List.length_drop]; omega)).mono ?_
  rintro e w10 ⟨rfl, k1⟩
  rw [decide_eq_true rfl]
  replace K := hide (K.out.trans k1)
  replace RA := hide (And.intro (RA.out.1.keeps k1) (RA.out.2.keeps k1))
  replace RC := hide (And.intro (RC.out.1.keeps k1) (RC.out.2.keeps k1))
  clear k1
  go_wp2_with fail
  refine (refSame13_any vb vd _ _ _ RA.out.2 RC.out.2 (by rw [List.length_take]; omega)).mono ?_
  rintro e w11 ⟨rfl, k1⟩
  rw [decide_eq_true rfl]
  replace K := hide (K.out.trans k1)
  clear RA RC
  clear k1
  go_wp2_with fail
  refine (Check_i _ l _ (RV.out.keeps K.out) hl hvi.out).mono ?_
  rintro e w12 ⟨rfl, k1⟩
  replace K := hide (K.out.trans k1)
  clear k1
  go_wp2_with fail
  refine (refCheck13_i _ l _ (RV.out.keeps K.out) (by omega)).mono ?_
  rintro e w13 ⟨rfl, k1⟩
  replace K := hide (K.out.trans k1)
  clear k1
  generalize decide l.Nodup = D1
  go_wp2_with fail
  refine (Check_t _ t _ (RU.out.keeps K.out) ht hux.out).mono ?_
  rintro e w14 ⟨rfl, k1⟩
  replace K := hide (K.out.trans k1)
  clear k1
  go_wp2_with fail
  refine (refCheck13_t _ t _ (RU.out.keeps K.out) (by omega)).mono ?_
  rintro e w15 ⟨rfl, k1⟩
  replace K := hide (K.out.trans k1)
  clear k1
  generalize decide t.Nodup = D2
  go_wp2_with fail
  refine (Touch_t _ t [] _ (RU.out.keeps K.out) ht).mono ?_
  intro e w16 hE
  obtain ⟨v1, rfl, o1, k1⟩ := hE
  replace K := hide (K.out.trans k1)
  have R1 := hide (row_readS o1.read)
  clear o1
  clear k1
  go_wp2_with fail
  refine (refTouchT_any _ t [] _ (RU.out.keeps K.out) ht).mono ?_
  intro e w17 hE
  obtain ⟨v2, rfl, o2, k1⟩ := hE
  replace K := hide (K.out.trans k1)
  replace R1 := hide (R1.out.keeps k1)
  have R2 := hide (row_readS o2.read)
  clear o2
  clear k1
  go_wp2_with fail
  refine (texts_any v1 v2 _ _ _ R1.out R2.out (by have := HT2.out; omega)).mono ?_
  rintro e w18 ⟨rfl, k1⟩
  rw [beq_self_eq_true]
  replace K := hide (K.out.trans k1)
  clear R1 R2
  clear k1
  go_wp2_with fail
  refine (live13_any _).mono ?_
  rintro e w19 ⟨rfl, k1⟩
  replace K := hide (K.out.trans k1)
  clear k1
  go_wp2
  go_ret
  exact ⟨rfl, K.out⟩
set_option maxHeartbeats 16000000 in
set_option maxRecDepth 100000 in
theorem LruTells_walk (v : Value) (l : List Int) (k : Int) (u : Value) (t : List (List UInt8)) (w : World) (hv : IsInts w v l) (hk : -9223372036854775808 ≤ k ∧ k ≤ 9223372036854775807) (hu : IsStrs w u t) :
    Calls Try.prog 3 #[v, .int .i64 k, u] w fun e w' => e = .returned (.bool true) ∧ Keeps w w' := by
  have hv' := hv
  have hu' := hu
  obtain ⟨hv, hvi, _⟩ := hv
  obtain ⟨hu, _, hux⟩ := hu
  replace hu := readS_row hu
  obtain ⟨a, cap, h1⟩ := hv.len
  rw [List.length_map] at h1
  subst h1
  obtain ⟨a2, cap2, h2⟩ := hu.len
  rw [List.length_map] at h2
  subst h2
  have K := hide (Keeps.refl w)
  by_cases g1 : (200 : Int) < (l.length : Int)
  · clear hv hu hv' hu'
    go_enter Try.func3, Try.ntmps3
    go_wp2_with fail
    refine (live13_any _).mono ?_
    rintro e w1 ⟨rfl, k1⟩
    replace K := hide (K.out.trans k1)
    clear k1
    go_wp2
    go_ret
    exact ⟨rfl, K.out⟩
  by_cases g2 : (200 : Int) < (t.length : Int)
  · clear hv hu hv' hu'
    go_enter Try.func3, Try.ntmps3
    go_wp2_with fail
    refine (live13_any _).mono ?_
    rintro e w1 ⟨rfl, k1⟩
    replace K := hide (K.out.trans k1)
    clear k1
    go_wp2
    go_ret
    exact ⟨rfl, K.out⟩
  cases hh : l.head? with
  | none => exact LruTells_nil _ l k _ t w hv' hk hu' (by cases l with | nil => rfl | cons x l => simp at hh) g1 g2
  | some x => exact LruTells_cons _ l k _ t w hv' hk hu' x hh g1 g2
end Go.Proofs.Ytafkpdjcfokgbaa
