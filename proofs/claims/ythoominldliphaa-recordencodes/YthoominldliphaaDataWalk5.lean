/- What Expand, splitWhole, Check, Names of layer 5 answer, for every input. -/
import Derived.Test.YthoominldliphaaDataWalk4
namespace Go.Proofs.Ythoominldliphaa
open Go.RowKit

def erS (r : Dt.ER) : ByteArray := ⟨r.d.toArray⟩
theorem inside_take (m : ByteArray) (p n : Int) : Dt.inside (bl m) p n = Oct.takeOk m p n := by
  simp only [Dt.inside, Oct.takeOk, bl_length]
theorem exp_out {m : ByteArray} {p n k : Int} (h : Oct.takeOk m p n = false) : Dt.expL (bl m) p n k = ⟨[], 2⟩ := by
  rw [Dt.expL, if_neg (by rw [inside_take, h]; simp)]
theorem exp_no {m : ByteArray} {p n : Nat} {k : Int} (h : p + n ≤ m.size) (hs : Dt.splitL (bl m) p n k = none) : Dt.expL (bl m) p n k = ⟨[], 4⟩ := by
  rw [Dt.expL, if_pos (by rw [inside_take, takeOk_nat]; simpa using h), Int.toNat_natCast, Int.toNat_natCast, hs]
theorem exp_yes {m : ByteArray} {p n : Nat} {k : Int} {x : Dt.Pt} (h : p + n ≤ m.size) (hs : Dt.splitL (bl m) p n k = some x) : Dt.expL (bl m) p n k = ⟨x.join, 0⟩ := by
  rw [Dt.expL, if_pos (by rw [inside_take, takeOk_nat]; simpa using h), Int.toNat_natCast, Int.toNat_natCast, hs]
theorem ret_str_int {a b : ByteArray} {c d : Int} (h : a = b) (g : c = d) : Ending.returned (.tuple #[.string a, .int .i64 c]) = .returned (.tuple #[.string b, .int .i64 d]) := by rw [h, g]

set_option maxHeartbeats 2000000 in
set_option maxRecDepth 100000 in
theorem expand_in (m : ByteArray) (p n : Nat) (k : Int) (w : World) (hm : m.size ≤ maxLen) (h : p + n ≤ m.size) :
    Calls Try.prog 23 #[.string m, .int .i64 p, .int .i64 n, .int .i64 k] w fun e w' => e = .returned (.tuple #[.string (erS (Dt.expL (bl m) p n k)), .int .i64 (Dt.expL (bl m) p n k).e]) ∧ Keeps w w' := by
  have hm' := hm
  unfold maxLen at hm'
  have ho : Oct.takeOk m p n = true := by rw [takeOk_nat]; simpa using h
  have hSp := fun W => split_any m p n k W hm h
  have hx := fun x => Dt.split_len (l := bl m) (p := p) (n := n) (k := k) (x := x) (by rw [bl_length]; exact h)
  have hE1 := fun hs => exp_no (k := k) h hs
  have hE2 := fun x hs => exp_yes (k := k) (x := x) h hs
  generalize Dt.splitL (bl m) p n k = R at *
  generalize Dt.expL (bl m) p n k = E at *
  have HSp := hide hSp
  have HX := hide hx
  have HE1 := hide hE1
  have HE2 := hide hE2
  clear hSp hx hE1 hE2
  go_enter Try.func23, Try.ntmps23
  go_wp2_with fail
  refine (take_any _ _ _ _ hm (by omega)).mono ?_
  rintro e w1 ⟨rfl, hw1⟩
  subst hw1
  rw [ho]
  go_wp2_with fail
  refine (HSp.out _).mono ?_
  rintro e w3 ⟨v, rfl, k3, hno, hyes⟩
  have HN := hide hno
  have HY := hide hyes
  clear hno hyes
  rcases Option.eq_none_or_eq_some R with hr | ⟨x, hr⟩
  · rw [HN.out hr, show R.isSome = false by rw [hr]; rfl]
    unfold noPt
    have HF := hide (HE1.out hr)
    clear hr HN HY HX HE1 HE2
    go_wp2
    go_ret2
    exact ⟨by rw [HF.out]; exact ret_str_int rfl rfl, k3.alloc _⟩
  · obtain ⟨u, hv, hown⟩ := HY.out x hr
    subst hv
    obtain ⟨ua, uc, rfl⟩ := hown.read.len
    rw [show R.isSome = true by rw [hr]; rfl]
    have HF := hide (HE2.out x hr)
    have hb := HX.out x hr
    have hl1 := hb.1
    have hl2 := hb.2.1
    have hrd := hown.read
    clear HN HY HX HE1 HE2 hr hb hown
    generalize hxa : (⟨x.a.toArray⟩ : ByteArray) = A at *
    generalize hxb : (⟨x.b.toArray⟩ : ByteArray) = C at *
    have HA : Hid (bl A = x.a) := by unfold Hid; rw [← hxa]; exact bl_mk _
    have HC : Hid (bl C = x.b) := by unfold Hid; rw [← hxb]; exact bl_mk _
    clear hxa hxb
    go_wp2_with fail
    refine (join_any _ x _ (PtAt.mk A C HA.out HC.out (hrd.keeps ((Keeps.refl _).alloc _))) (by omega) (by omega)).mono ?_
    rintro e w4 ⟨rfl, k4⟩
    go_wp2
    go_ret2
    exact ⟨by rw [HF.out]; exact ret_str_int rfl rfl, (k3.alloc _).trans k4⟩

theorem expand_any (m : ByteArray) (p n k : Int) (w : World) (hm : m.size ≤ maxLen) (hp : p ≤ 9223372036854775807) :
    Calls Try.prog 23 #[.string m, .int .i64 p, .int .i64 n, .int .i64 k] w fun e w' => e = .returned (.tuple #[.string (erS (Dt.expL (bl m) p n k)), .int .i64 (Dt.expL (bl m) p n k).e]) ∧ Keeps w w' := by
  by_cases ho : Oct.takeOk m p n = true
  · have ho2 := ho
    simp only [Oct.takeOk, decide_eq_true_eq] at ho2
    obtain ⟨p, rfl⟩ := Int.eq_ofNat_of_zero_le ho2.1
    obtain ⟨n, rfl⟩ := Int.eq_ofNat_of_zero_le ho2.2.1
    exact expand_in m p n k w hm (by omega)
  · simp only [Bool.not_eq_true] at ho
    rw [exp_out ho]
    go_enter Try.func23, Try.ntmps23
    go_wp2_with fail
    refine (take_any _ _ _ _ hm hp).mono ?_
    rintro e w1 ⟨rfl, hw1⟩
    subst hw1
    rw [ho]
    go_wp2
    go_ret2
    exact ⟨rfl, Keeps.refl _⟩

theorem whole_split {k : Int} {d : ByteArray} (h : Dt.splitL (bl d) 0 d.size k = none) : Dt.wholeL k (bl d) = none := by
  rw [Dt.wholeL, bl_length, h]
theorem whole_same {k : Int} {d : ByteArray} {x : Dt.Pt} (h : Dt.splitL (bl d) 0 d.size k = some x) (hj : joinP x = d) : Dt.wholeL k (bl d) = some x := by
  rw [Dt.wholeL, bl_length, h]
  exact if_pos (by rw [← bl_joinP, hj])
theorem whole_other {k : Int} {d : ByteArray} {x : Dt.Pt} (h : Dt.splitL (bl d) 0 d.size k = some x) (hj : joinP x ≠ d) : Dt.wholeL k (bl d) = none := by
  rw [Dt.wholeL, bl_length, h]
  exact if_neg (fun e => hj (bl_inj (by rw [bl_joinP, e])))

set_option maxHeartbeats 2000000 in
set_option maxRecDepth 100000 in
theorem splitWhole_any (k : Int) (d : ByteArray) (w : World) (hm : d.size ≤ maxLen) :
    Calls Try.prog 45 #[.int .i64 k, .string d] w fun e w' => PtEnd w (Dt.wholeL k (bl d)) e w' := by
  have hm' := hm
  unfold maxLen at hm'
  have hSp := fun W => split_any d 0 d.size k W hm (by omega)
  have hx := fun x => Dt.split_len (l := bl d) (p := 0) (n := d.size) (k := k) (x := x) (by rw [bl_length]; omega)
  have hE1 := fun hs => whole_split (k := k) (d := d) hs
  have hE2 := fun x hs => whole_same (k := k) (d := d) (x := x) hs
  have hE3 := fun x hs => whole_other (k := k) (d := d) (x := x) hs
  generalize Dt.splitL (bl d) 0 d.size k = R at *
  generalize Dt.wholeL k (bl d) = E at *
  have HSp := hide hSp
  have HX := hide hx
  have HE1 := hide hE1
  have HE2 := hide hE2
  have HE3 := hide hE3
  clear hSp hx hE1 hE2 hE3
  go_enter Try.func45, Try.ntmps45
  go_wp2_with fail
  have Z0 := Zero3.made w 63
  have K0 : Keeps w (w.alloc (.cells #[.string ⟨#[]⟩, .slice none 0 0, .string ⟨#[]⟩] 63)) := (Keeps.refl _).alloc _
  generalize w.alloc (.cells #[.string ⟨#[]⟩, .slice none 0 0, .string ⟨#[]⟩] 63) = W at *
  have hWs := Z0.2.2.2.2
  refine (HSp.out _).mono ?_
  rintro e w3 ⟨v, rfl, k3, hno, hyes⟩
  have HN := hide hno
  have HY := hide hyes
  clear hno hyes
  rcases Option.eq_none_or_eq_some R with hr | ⟨x, hr⟩
  · rw [HN.out hr, show R.isSome = false by rw [hr]; rfl]
    unfold noPt
    have HF := hide (HE1.out hr)
    clear hr HN HY HX HE1 HE2 HE3
    obtain ⟨d2, d3, d4, ⟨d5, d6, d7⟩, d8⟩ := Z0.below k3
    have d9 := K0.trans k3
    go_wp2
    exact bodyPost_ret (v := .tuple #[noPt, .bool false]) (by simp [results, Try.results45, go_sem, noPt, d2, d3, d4, d8]) rfl (PtEnd.no HF.out (Keeps.alloc (((d9.setCell (by simp) _).setCell (by simp) _).setCell (by simp) _) _))
  · obtain ⟨u, hv, hown⟩ := HY.out x hr
    subst hv
    obtain ⟨ua, uc, rfl⟩ := hown.read.len
    rw [show R.isSome = true by rw [hr]; rfl]
    have HF2 := hide (HE2.out x hr)
    have HF3 := hide (HE3.out x hr)
    have hb := HX.out x hr
    have hl1 := hb.1
    have hl2 := hb.2.1
    have hrd := hown.read
    clear HN HY HX HE1 HE2 hr hb
    generalize hxa : (⟨x.a.toArray⟩ : ByteArray) = A at *
    generalize hxb : (⟨x.b.toArray⟩ : ByteArray) = C at *
    have HA : Hid (bl A = x.a) := by unfold Hid; rw [← hxa]; exact bl_mk _
    have HC : Hid (bl C = x.b) := by unfold Hid; rw [← hxb]; exact bl_mk _
    clear hxa hxb
    go_wp2_with fail
    refine (join_any _ x _ (PtAt.mk A C HA.out HC.out (hrd.keeps ((Keeps.refl _).alloc _))) (by omega) (by omega)).mono ?_
    rintro e w4 ⟨rfl, k4⟩
    obtain ⟨e0, e1, e2, e3, hrd4, e4⟩ := (Three.made w3 (.string A) (.slice ua x.ns.length uc) (.string C) (.slice ua x.ns.length uc) x.ns 63 hrd).keeps k4
    have hown4 := (hown.alloc (.cells #[.string A, .slice ua x.ns.length uc, .string C] 63)).below k4
    obtain ⟨d2, d3, d4, ⟨d5, d6, d7⟩, d8⟩ := (Z0.below k3).below e4
    have d9 := (K0.trans k3).trans e4
    clear hown hrd k4 k3 e4 K0 Z0
    generalize hJ : joinP x = J at *
    clear hJ
    by_cases hJd : J = d
    · have HF := hide (HF2.out hJd)
      subst hJd
      clear HF2 HF3
      go_wp2
      have o1 := ((hown4.other (a := ⟨w.heap.size, 0, none⟩) hWs (.string A)).other (a := ⟨w.heap.size, 1, none⟩) hWs (.slice ua x.ns.length uc)).other (a := ⟨w.heap.size, 2, none⟩) hWs (.string C)
      exact bodyPost_ret (v := .tuple #[.agg #[.string A, .slice ua x.ns.length uc, .string C], .bool true]) (by simp [results, Try.results45, go_sem, d2, d3, d4]) rfl (PtEnd.yes HF.out (((d9.setCell (by simp) _).setCell (by simp) _).setCell (by simp) _) (PtOwn.le (PtOwn.mk A C HA.out HC.out o1) (by omega)))
    · have HF := hide (HF3.out hJd)
      have hne : (J.toList == d.toList) = false := by
        rw [toList_bl, toList_bl, beq_eq_false_iff_ne]
        exact fun e => hJd (bl_inj e)
      clear HF2 HF3 hJd
      go_wp2
      exact bodyPost_ret (v := .tuple #[noPt, .bool false]) (by simp [results, Try.results45, go_sem, noPt, d2, d3, d4]) rfl (PtEnd.no HF.out (((d9.setCell (by simp) _).setCell (by simp) _).setCell (by simp) _))
end Go.Proofs.Ythoominldliphaa
