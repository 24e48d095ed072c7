/- What the document's Expand of layer 5 answers for a type that has a shape. -/
import Derived.Test.YthoominldliphaaDataRef2
namespace Go.Proofs.Ythoominldliphaa
open Go.RowKit

def RxRel (m A : ByteArray) (n : Nat) (z : Option (List (List UInt8) × Nat)) (o i k : Value) : Prop :=
  ∃ (j q : Nat) (ds : List (List UInt8)) (O : ByteArray), j ≤ n ∧ k = .int .i64 j ∧ i = .int .i64 q ∧ q ≤ m.size ∧ o = .string O ∧ bl O = bl A ++ ds.flatten ∧ O.size ≤ A.size + 255 * j ∧ z = (Dt.rds (bl m) (n - j) q).map (fun x => (ds ++ x.1, x.2))
theorem RxRel.mk {m A : ByteArray} {n : Nat} {z : Option (List (List UInt8) × Nat)} (j q : Nat) (ds : List (List UInt8)) (O : ByteArray) (h1 : j ≤ n) (h2 : q ≤ m.size) (h3 : bl O = bl A ++ ds.flatten) (h4 : O.size ≤ A.size + 255 * j) (h5 : z = (Dt.rds (bl m) (n - j) q).map (fun x => (ds ++ x.1, x.2))) :
    RxRel m A n z (.string O) (.int .i64 q) (.int .i64 j) := ⟨j, q, ds, O, h1, rfl, rfl, h2, rfl, h3, h4, h5⟩
theorem split_of {l : List UInt8} {p n : Nat} {k : Int} {s : Dt.Sh} (hn : n ≤ 65535) (hs : Dt.shp k = some s) (hp : p + s.a ≤ l.length) : Dt.splitL l p n k = tkOf l p (p + n) s (Dt.rds l s.n (p + s.a)) := by
  rw [Dt.splitL, if_neg (by omega), hs]
  exact takeL_of _ hp
theorem rrS_size {l : List UInt8} {p : Int} {r : Cm.RR} (h : Cm.readL l p = r) : (rrS r).size ≤ 255 ∧ (r.next : Int) ≤ l.length := by
  have e : (rrS r).size = r.n.length := by rw [rrS, ← bl_length, bl_mk]
  rw [e]
  rcases Cm.read_names l p with h1 | h1 | ⟨n, k, h1, h2, h3, h4, h5⟩
  · rw [← h, h1]; simp [Cm.bad]
  · rw [← h, h1]; simp [Cm.bad]
  · rw [← h, h1]; exact ⟨(Dt.ok_len h2).2, by simp; omega⟩

set_option maxHeartbeats 4000000 in
set_option maxRecDepth 100000 in
theorem refexp_shape (m : ByteArray) (p n : Nat) (k : Int) (s : Dt.Sh) (z : Option (List (List UInt8) × Nat)) (w : World) (hm2 : m.size ≤ 1000000) (h : p + n ≤ m.size) (hn : n ≤ 65535) (hs : Dt.shp k = some s) (ha : s.a ≤ n) (hz : Hid (z = Dt.rds (bl m) s.n (p + s.a))) :
    Calls Try.prog 27 #[.string m, .int .i64 p, .int .i64 n, .int .i64 k] w fun e w' => e = .returned (.tuple #[.string (erS (Dt.expL (bl m) p n k)), .int .i64 (Dt.expL (bl m) p n k).e]) ∧ Keeps w w' := by
  have hm : m.size ≤ maxLen := by unfold maxLen; omega
  have ho : Oct.takeOk m p n = true := by rw [takeOk_nat]; simpa using h
  have hsm := Dt.shp_small hs
  have hs1 := hsm.1
  have hs2 := hsm.2.1
  have hs3 := hsm.2.2
  have hT := split_of (l := bl m) (p := p) hn hs (by rw [bl_length]; omega)
  rw [← hz.out] at hT
  have hx := fun x => Dt.split_len (l := bl m) (p := p) (n := n) (k := k) (x := x) (by rw [bl_length]; exact h)
  have hE1 := fun hs => exp_no (k := k) h hs
  have hE2 := fun x hs => exp_yes (k := k) (x := x) h hs
  generalize Dt.splitL (bl m) p n k = R at *
  generalize Dt.expL (bl m) p n k = E at *
  have HX := hide hx
  have HT := hide hT
  have HE1 := hide hE1
  have HE2 := hide hE2
  have HO : Hid (shOf k = s) := by simp [Hid, shOf, hs]
  have hA := takeS_nat m p n h
  have hsz := Oct.takeS_size m p n ho
  have has := fun w => arr_shape hs w
  clear hx hT hE1 hE2 hsm hs
  go_enter Try.func27, Try.ntmps27
  go_wp2_with fail
  refine (reftake_any _ _ _ _ hm (by omega)).mono ?_
  rintro e w1 ⟨rfl, hw1⟩
  subst hw1
  rw [ho]
  generalize Oct.takeS m p n = D at *
  have hsz' : D.size = n := by omega
  have hD : bl (D.extract 0 s.a) = Dt.part (bl m) p s.a := by
    rw [bl_extract, hA, Dt.part, Dt.part, List.drop_zero, List.take_take]
    congr 1
    omega
  have hDs : (D.extract 0 s.a).size ≤ 16 := by rw [ByteArray.size_extract]; omega
  have HD := hide hD
  have ha2 : decide (n < s.a) = false := decide_eq_false (by omega)
  have ha3 : (s.a : Int) ≤ (D.size : Int) := by omega
  clear hA hsz hD hsz'
  go_wp2_with fail
  refine (refshape_any _ _).mono ?_
  rintro e w2 ⟨rfl, k2⟩
  rw [HO.out]
  unfold shR
  go_wp2
  generalize D.extract 0 s.a = A at *
  go_loop [13, 14, 15] (fun o i k => RxRel m A s.n z o i k) (fun _ _ k => s.n - (intOf k).toNat)
  case atStart =>
    have e1 : ((p : Int) + (s.a : Int)) = ((p + s.a : Nat) : Int) := by omega
    rw [e1]
    exact RxRel.mk 0 _ [] A (by omega) (by omega) (by simp) (by omega) (by rw [hz.out]; simp)
  case round =>
    obtain ⟨j, q, ds, O, hj, rfl, rfl, hq, rfl, hO, hOs, hz2⟩ := hrel
    have HZ := hide hz2
    have HO2 := hide hO
    clear hz2 hz hO
    by_cases hlt : j < s.n
    · have hjn : (j : Int) < (s.n : Int) := by omega
      generalize hrr : Cm.readL (bl m) q = r at *
      obtain ⟨hr1, hr2⟩ := rrS_size hrr
      rw [bl_length] at hr2
      have HRR := hide hrr
      clear hrr
      by_cases he0 : r.e = 0
      · have HS : Hid (z = (Dt.rds (bl m) (s.n - (j + 1)) r.next).map (fun x => ((ds ++ [r.n]) ++ x.1, x.2))) := by
          unfold Hid
          rw [← HRR.out]
          exact rds_step_yes HZ.out hlt (by rw [HRR.out]; exact he0)
        have HE : Hid ((r.e : Int) = 0) := by unfold Hid; omega
        have hb : O.size + (rrS r).size ≤ 9223372036854775807 := by omega
        have hadd : ∀ w, (Op.stringOp .add O (rrS r)).run Try.prog w = .ok (.string (O ++ rrS r)) w := fun w => run_string_add_sum w _ _ hb
        clear he0
        go_wp2_with fail
        refine (refread_any _ _ _ hm (by omega)).mono ?_
        rintro e w4 ⟨rfl, hw4⟩
        subst hw4
        rw [HRR.out, HE.out]
        go_wp2
        go_round
        case rel =>
          refine RxRel.mk (j + 1) r.next (ds ++ [r.n]) (O ++ rrS r) (by omega) (by omega) ?_ (by rw [ByteArray.size_append]; omega) HS.out
          have e1 : bl (rrS r) = r.n := bl_mk _
          rw [bl_append, HO2.out, e1]
          simp
        case measure => simp [intOf]; omega
      · have HE : ((r.e : Int) != 0) = true := by rw [bne_iff_ne]; omega
        have HF : Hid (E = ⟨[], 4⟩) := by
          refine HE1.out ?_
          rw [HT.out, rds_step_no HZ.out hlt (by rw [HRR.out]; exact he0)]
          rfl
        clear he0
        go_wp2_with fail
        refine (refread_any _ _ _ hm (by omega)).mono ?_
        rintro e w4 ⟨rfl, hw4⟩
        subst hw4
        rw [HRR.out]
        go_wp2
        go_ret2
        exact ⟨by rw [HF.out]; rfl, k2.alloc _⟩
    · have hjn : s.n - j = 0 := by omega
      have HZ2 : Hid (R = tkOf (bl m) p (p + n) s (some (ds, q))) := by
        unfold Hid
        rw [HT.out, HZ.out, hjn, Dt.rds]
        simp
      have hjl : ¬ (j : Int) < (s.n : Int) := by omega
      clear HZ HT hjn
      by_cases hqe : q + s.b = p + n
      · have hr := tkOf_yes (bl m) p (p + n) s ds q hqe
        rw [← HZ2.out] at hr
        have HF := hide (HE2.out _ hr)
        have hlen := (HX.out _ hr).1
        have hqe2 : ((q : Int) + (s.b : Int) != (p : Int) + (n : Int)) = false := by rw [bne_eq_false_iff_eq]; omega
        have hq0 : (0 : Int) ≤ (q : Int) := by omega
        have hq1 : (q : Int) ≤ (p : Int) + (n : Int) := by omega
        have hq2 : (p : Int) + (n : Int) ≤ (m.size : Int) := by omega
        have HM : Hid (bl (m.extract q (p + n)) = Dt.part (bl m) q s.b) := by
          unfold Hid
          rw [bl_extract, Dt.part]
          congr 1
          omega
        have HJ : Hid (erS E = O ++ m.extract q (p + n)) := by
          unfold Hid
          apply bl_inj
          rw [bl_append, HM.out, HO2.out, HF.out, erS, bl_mk, HD.out]
          simp [Dt.Pt.join]
        have hsl : (O ++ m.extract q (p + n)).size ≤ 65535 := by
          rw [← HJ.out, HF.out, ← bl_length, erS, bl_mk]
          exact hlen
        have hext : (m.extract q (p + n)).size ≤ 20 := by rw [ByteArray.size_extract]; omega
        have hadd : ∀ w, (Op.stringOp .add O (m.extract q (p + n))).run Try.prog w = .ok (.string (O ++ m.extract q (p + n))) w := fun w => run_string_add_sum w _ _ (by omega)
        have hsl2 : ¬ 65535 < (O.size : Int) + ((p + n - q : Nat) : Int) := by
          rw [ByteArray.size_append, ByteArray.size_extract] at hsl; omega
        have hsl3 : ¬ 9223372036854775807 < O.size + (p + n - q) := by omega
        have hx2 : ((p : Int) + (n : Int)).toNat = p + n := by omega
        clear hqe hr hlen hsl
        go_wp2
        go_ret2
        exact ⟨ret_str_int HJ.out.symm (by rw [HF.out]; rfl), k2.alloc _⟩
      · have hr := tkOf_no (bl m) p (p + n) s ds q hqe
        rw [← HZ2.out] at hr
        have HF := hide (HE1.out hr)
        have hqe2 : ¬ ((q : Int) + (s.b : Int) = (p : Int) + (n : Int)) := by omega
        clear hqe hr
        go_wp2
        go_ret2
        exact ⟨by rw [HF.out]; rfl, k2.alloc _⟩
end Go.Proofs.Ythoominldliphaa
