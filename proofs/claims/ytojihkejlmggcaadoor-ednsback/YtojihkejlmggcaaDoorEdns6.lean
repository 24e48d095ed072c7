/- What Find of the document's answer for layer 9 tells. No condition. -/
import Derived.Test.YtojihkejlmggcaaDoorEdns5
namespace Go.Proofs.YtojihkejlmggcaaDoor
open Go.RowKit

theorem cnt_step {l : List Rec} {j : Nat} (hj : j < l.length) : ((l.take (j + 1)).filter optB).length = ((l.take j).filter optB).length + if optB l[j] then 1 else 0 := by
  rw [List.take_succ_eq_append_getElem hj, List.filter_append, List.length_append]
  cases h : optB l[j] <;> simp [h]
theorem cnt_any (l : List Rec) : decide (0 < ((l.filter optB).length : Int)) = l.any optB := by
  cases h : l.any optB
  · rw [List.filter_eq_nil_iff.2 fun x hx => by have := List.any_eq_false.1 h x hx; simpa using this]
    rfl
  · obtain ⟨j, hj, _, h2⟩ := filter_first h
    rw [h2]
    simp

set_option maxHeartbeats 2000000 in
set_option maxRecDepth 100000 in
theorem refcount_any (v : Value) (l : List Rec) (w : World) (hr : ReadRow w v 5 (l.map recL8)) (hl : l.length ≤ maxLen) :
    Calls Tryd.prog 25 #[v] w fun e w' => e = .returned (.int .i64 (l.filter optB).length) ∧ Keeps w w' := by
  unfold maxLen at hl
  obtain ⟨a, cap, hv⟩ := hr.len
  rw [List.length_map] at hv
  subst hv
  go_enter Tryd.func25, Tryd.ntmps25
  go_wp2
  go_loopw [3, 4] (fun n i wr => ∃ j c : Nat, j ≤ l.length ∧ c ≤ j ∧ n = .int .i64 c ∧ i = .int .i64 j ∧ Hid (c = ((l.take j).filter optB).length) ∧ Keeps w wr) (fun _ i _ => l.length - (intOf i).toNat)
  case atStart => exact ⟨0, 0, by omega, by omega, rfl, rfl, by simp [Hid], Keeps.refl _⟩
  case round =>
    obtain ⟨j, c, hj, hc, rfl, rfl, HA, K⟩ := hrel
    have hr2 := hr.keeps K
    by_cases hlt : j < l.length
    · have i2 : (j : Int) < (l.length : Int) := by omega
      have i0 : (0 : Int) ≤ (j : Int) := by omega
      obtain ⟨b, off, rfl, _, _⟩ := hr2.parts (by rw [List.length_map]; omega)
      obtain ⟨c0, c1, c2, c3, c4⟩ := row5 hr2 hlt
      have HS := hide (cnt_step hlt)
      rw [← HA.out] at HS
      have HB := hide (show optB l[j] = (l[j].t == 41) from rfl)
      generalize hoo : off + j * 5 = o at *
      generalize l[j] = x at *
      clear hr2 hr HA
      by_cases hx : x.t = 41
      · have HE : Hid (c + 1 = ((l.take (j + 1)).filter optB).length) := by rw [Hid, HS.out, HB.out, hx]; rfl
        clear HS HB
        go_wp2
        go_roundw
        case rel => exact ⟨j + 1, c + 1, by omega, by omega, by go_num, by go_num, HE, K⟩
        case measure => simp [intOf]; omega
      · have HE : Hid (c = ((l.take (j + 1)).filter optB).length) := by rw [Hid, HS.out, HB.out, beq_false_of_ne hx]; rfl
        clear HS HB
        go_wp2
        go_roundw
        case rel => exact ⟨j + 1, c, by omega, by omega, by go_num, by go_num, HE, K⟩
        case measure => simp [intOf]; omega
    · obtain rfl : j = l.length := by omega
      rw [List.take_length] at HA
      go_wp2
      go_ret
      exact ⟨ret_int (by rw [HA.out]), K⟩

theorem find_at {l : List Rec} {j : Nat} (hj : j < l.length) (ha : (l.take j).any optB = false) (hx : optB l[j] = true) (hc : (l.filter optB).length ≤ 1) : findR l = if canB l[j] then (opOf l[j], 0) else (noOp, 7) := by
  have e : l.filter optB = l[j] :: (l.drop (j + 1)).filter optB := by
    conv => lhs; rw [← List.take_append_drop j l]
    rw [List.filter_append, List.filter_eq_nil_iff.2 fun x hx => by have := List.any_eq_false.1 ha x hx; simpa using this, List.drop_eq_getElem_cons hj, List.filter_cons, if_pos hx]
    rfl
  have e2 : (l.drop (j + 1)).filter optB = [] := by
    rw [e] at hc
    simpa using hc
  rw [e2] at e
  rw [findR, e]
theorem find_many {l : List Rec} (hc : 1 < (l.filter optB).length) : findR l = (noOp, 7) := by
  rw [findR]
  match hm : l.filter optB with
  | [] => rw [hm] at hc; simp at hc
  | [_] => rw [hm] at hc; simp at hc
  | _ :: _ :: _ => rfl

set_option maxHeartbeats 4000000 in
set_option maxRecDepth 100000 in
theorem refFind_any (v : Value) (m : Ms) (w : World) (hM : MsAt w v m) (hf : MsFine m) :
    Calls Tryd.prog 11 #[v] w fun e w' => e = .returned (.tuple #[opV (findM m).1, .int .i64 (findM m).2]) ∧ Keeps w w' := by
  have HF := hide (show findM m = if m.an.any optB || m.ns.any optB then (noOp, 7) else findR m.ar from rfl)
  obtain ⟨vq, va, vn, vr, rfl, rq, ra, rn, rr⟩ := hM
  obtain ⟨_, ⟨a1, _⟩, ⟨n1, _⟩, ⟨r1, _⟩⟩ := hf
  obtain ⟨aq, kq, e1⟩ := rq.len
  obtain ⟨aa, ka, e2⟩ := ra.len
  obtain ⟨an, kn, e3⟩ := rn.len
  obtain ⟨ar, kr, e4⟩ := rr.len
  rw [List.length_map] at e1 e2 e3 e4
  subst e1 e2 e3 e4
  have HA := hide (fun W (k : Keeps w W) => refcount_any _ m.an W (ra.keeps k) a1)
  have HN := hide (fun W (k : Keeps w W) => refcount_any _ m.ns W (rn.keeps k) n1)
  have HI := hide (fun W (k : Keeps w W) => refcount_any _ m.ar W (rr.keeps k) r1)
  rw [← cnt_any m.an, ← cnt_any m.ns] at HF
  have RR := hide rr
  have rl := r1
  unfold maxLen at rl
  clear rq ra rn rr a1 n1 r1
  have B := hide ((Blk.made w #[.int .i64 m.id, .int .i64 m.bits, .slice aq m.qs.length kq, .slice aa m.an.length ka, .slice an m.ns.length kn, .slice ar m.ar.length kr] 25).alloc (.cells #[.bool false, .int .i64 0, .int .i64 0, .int .i64 0, .bool false] 33))
  have B2 := Blk.made (w.alloc (.cells #[.int .i64 m.id, .int .i64 m.bits, .slice aq m.qs.length kq, .slice aa m.an.length ka, .slice an m.ns.length kn, .slice ar m.ar.length kr] 25)) #[.bool false, .int .i64 0, .int .i64 0, .int .i64 0, .bool false] 33
  rw [size_alloc] at B2
  replace B2 := hide B2
  have K := hide (((Keeps.refl w).alloc (.cells #[.int .i64 m.id, .int .i64 m.bits, .slice aq m.qs.length kq, .slice aa m.an.length ka, .slice an m.ns.length kn, .slice ar m.ar.length kr] 25)).alloc (.cells #[.bool false, .int .i64 0, .int .i64 0, .int .i64 0, .bool false] 33))
  generalize findM m = R at *
  generalize m.id = I at *
  generalize m.bits = J at *
  generalize (m.an.filter optB).length = XA at *
  generalize (m.ns.filter optB).length = XN at *
  generalize m.an.length = la at *
  generalize m.ns.length = ln at *
  generalize m.qs.length = lq at *
  generalize m.ar = l at *
  go_enter Tryd.func11, Tryd.ntmps11
  go_upto_region 1 with fail
  generalize (w.alloc (.cells #[.int .i64 I, .int .i64 J, .slice aq lq kq, .slice aa la ka, .slice an ln kn, .slice ar l.length kr] 25)).alloc (.cells #[.bool false, .int .i64 0, .int .i64 0, .int .i64 0, .bool false] 33) = W at *
  have HX : Hid (∀ W', Keeps w W' → ∀ a b c d e, Keeps w (((((W'.setCell ⟨w.heap.size + 1, 0, none⟩ a).setCell ⟨w.heap.size + 1, 1, none⟩ b).setCell ⟨w.heap.size + 1, 2, none⟩ c).setCell ⟨w.heap.size + 1, 3, none⟩ d).setCell ⟨w.heap.size + 1, 4, none⟩ e)) := fun W' k a b c d e => Keeps.five k (Nat.le_succ _) a b c d e
  generalize w.heap.size + 1 = G2 at *
  generalize hGG : w.heap.size = G at *
  clear hGG
  have HE : Hid (∀ (W' : World) (E : Nat), R = (noOp, E) → Keeps w W' → Ending.returned (.tuple #[.agg #[.bool false, .int .i64 0, .int .i64 0, .int .i64 0, .bool false], .int .i64 E]) = Ending.returned (.tuple #[opV R.1, .int .i64 R.2]) ∧ Keeps w W') := fun W' E h k => ⟨by rw [h]; rfl, k⟩
  obtain ⟨y0, y1, y2, y3, y4, y5, y6⟩ := B.out.six6
  go_wp2_with fail
  refine (HA.out _ K.out).mono ?_
  rintro e w1 ⟨rfl, k1⟩
  replace B := hide (B.out.keeps k1)
  replace B2 := hide (B2.out.keeps k1)
  replace K := hide (K.out.trans k1)
  clear k1 y0 y1 y2 y3 y4 y5 y6 HA
  by_cases qa : (0 : Int) < (XA : Int)
  · have HG := hide qa
    obtain ⟨c0, c1, c2, c3, c4, f0, f1, f2, f3, f4, glt⟩ := B2.out.cell5
    go_wp2_with fail
    exact bodyPost_ret (v := .tuple #[.agg #[.bool false, .int .i64 0, .int .i64 0, .int .i64 0, .bool false], .int .i64 7]) (by simp [results, Tryd.results11, go_sem, c0, c1, c2, c3, c4]) rfl (HE.out _ 7 (by rw [HF.out, decide_eq_true HG.out]; rfl) (HX.out _ K.out _ _ _ _ _))
  rw [decide_eq_false qa] at HF
  obtain ⟨y0, y1, y2, y3, y4, y5, y6⟩ := B.out.six6
  go_wp2_with fail
  refine (HN.out _ K.out).mono ?_
  rintro e w2 ⟨rfl, k1⟩
  replace B := hide (B.out.keeps k1)
  replace B2 := hide (B2.out.keeps k1)
  replace K := hide (K.out.trans k1)
  clear k1 y0 y1 y2 y3 y4 y5 y6 HN
  by_cases qn : (0 : Int) < (XN : Int)
  · have HG := hide qn
    obtain ⟨c0, c1, c2, c3, c4, f0, f1, f2, f3, f4, glt⟩ := B2.out.cell5
    go_wp2_with fail
    exact bodyPost_ret (v := .tuple #[.agg #[.bool false, .int .i64 0, .int .i64 0, .int .i64 0, .bool false], .int .i64 7]) (by simp [results, Tryd.results11, go_sem, c0, c1, c2, c3, c4]) rfl (HE.out _ 7 (by rw [HF.out, decide_eq_true HG.out]; rfl) (HX.out _ K.out _ _ _ _ _))
  rw [decide_eq_false qn] at HF
  have HF2 : Hid (R = findR l) := HF.out
  clear HF
  obtain ⟨y0, y1, y2, y3, y4, y5, y6⟩ := B.out.six6
  go_wp2_with fail
  refine (HI.out _ K.out).mono ?_
  rintro e w3 ⟨rfl, k1⟩
  replace B := hide (B.out.keeps k1)
  replace B2 := hide (B2.out.keeps k1)
  replace K := hide (K.out.trans k1)
  clear k1 y0 y1 y2 y3 y4 y5 y6 HI
  have HM := hide (find_many (l := l))
  have HFA := hide (fun j hj ha hx => find_at (l := l) (j := j) hj ha hx)
  have HN0 := hide (find_none (l := l))
  generalize (l.filter optB).length = XR at *
  by_cases qr : (1 : Int) < (XR : Int)
  · have HG := hide (HF2.out.trans (HM.out (by omega)))
    obtain ⟨c0, c1, c2, c3, c4, f0, f1, f2, f3, f4, glt⟩ := B2.out.cell5
    go_wp2_with fail
    exact bodyPost_ret (v := .tuple #[.agg #[.bool false, .int .i64 0, .int .i64 0, .int .i64 0, .bool false], .int .i64 7]) (by simp [results, Tryd.results11, go_sem, c0, c1, c2, c3, c4]) rfl (HE.out _ 7 HG.out (HX.out _ K.out _ _ _ _ _))
  have HFB := hide (fun j hj ha hx => HFA.out j hj ha hx (by omega))
  clear HFA HM
  go_wp2_with fail
  clear qa qn qr
  go_loopw [4] (fun i wr => ∃ j : Nat, j ≤ l.length ∧ i = .int .i64 j ∧ Hid ((l.take j).any optB = false) ∧ Hid (Blk wr G #[.int .i64 I, .int .i64 J, .slice aq lq kq, .slice aa la ka, .slice an ln kn, .slice ar l.length kr] 25) ∧ Hid (Blk wr G2 #[.bool false, .int .i64 0, .int .i64 0, .int .i64 0, .bool false] 33) ∧ Hid (Keeps w wr)) (fun i _ => l.length - (intOf i).toNat)
  case atStart => exact ⟨0, by omega, rfl, by simp [Hid], B, B2, K⟩
  case round =>
    clear B B2 K
    obtain ⟨j, hj, rfl, HA, B, B2, K⟩ := hrel
    obtain ⟨y0, y1, y2, y3, y4, y5, y6⟩ := B.out.six6
    by_cases hlt : j < l.length
    · have i2 : (j : Int) < (l.length : Int) := by omega
      have i0 : (0 : Int) ≤ (j : Int) := by omega
      have hr2 := RR.out.keeps K.out
      obtain ⟨b, off, rfl, _, _⟩ := hr2.parts (by rw [List.length_map]; omega)
      obtain ⟨q0, q1, q2, q3, q4⟩ := row5 hr2 hlt
      have HI := hide (HFB.out j hlt HA.out)
      have HS := hide (any_step hlt HA.out)
      clear hr2 RR HA HFB HN0
      generalize hoo : off + j * 5 = o at *
      generalize l[j] = x at *
      obtain ⟨xn, xt, xc, xl, xd⟩ := x
      simp only at q0 q1 q2 q3 q4
      replace B := hide (B.out.alloc (.cells #[.string xn, .int .i64 xt, .int .i64 xc, .int .i64 xl, .string xd] 37))
      replace B2 := hide (B2.out.alloc (.cells #[.string xn, .int .i64 xt, .int .i64 xc, .int .i64 xl, .string xd] 37))
      replace K := hide (K.out.alloc (.cells #[.string xn, .int .i64 xt, .int .i64 xc, .int .i64 xl, .string xd] 37))
      have B3 := hide (Blk.made wr #[.string xn, .int .i64 xt, .int .i64 xc, .int .i64 xl, .string xd] 37)
      go_upto_region 7 with fail
      generalize wr.alloc (.cells #[.string xn, .int .i64 xt, .int .i64 xc, .int .i64 xl, .string xd] 37) = W3 at *
      generalize wr.heap.size = G3 at *
      clear y0 y1 y2 y3 y4 y5 y6 q0 q1 q2 q3 q4
      obtain ⟨b0, b1, b2, b3, b4, _, _, _, _, _, _⟩ := B3.out.cell5
      clear B3
      by_cases h41 : ¬ xt = 41
      · have HA := hide (HS.out (by simpa [optB] using h41))
        clear HS HI
        go_wp2_with fail
        go_roundw
        case rel => exact ⟨j + 1, by omega, by go_num, HA, B, B2, K⟩
        case measure => simp [intOf]; omega
      simp only [Decidable.not_not] at h41
      have HG0 := hide (HF2.out.trans (HI.out (by simp [optB, h41])))
      subst h41
      have HC := hide (show canB ⟨xn, 41, xc, xl, xd⟩ = ((xn.toList == [0]) && fitB xc 65535 && fitB xl 4294967295) from rfl)
      have HO := hide (show opV (opOf ⟨xn, 41, xc, xl, xd⟩) = .agg #[.bool true, .int .i64 xc, .int .i64 (xl / 16777216), .int .i64 (xl / 65536 % 256), .bool (xl / 32768 % 2 == 1)] from rfl)
      generalize canB ⟨xn, 41, xc, xl, xd⟩ = C at *
      generalize opOf ⟨xn, 41, xc, xl, xd⟩ = O at *
      clear HS HI HF2 i2 i0 hlt hoo hj rl
      obtain ⟨c0, c1, c2, c3, c4, f0, f1, f2, f3, f4, glt⟩ := B2.out.cell5
      have HBad : Hid (C = false → R = (noOp, 7)) := fun h => by rw [HG0.out, h]; rfl
      cases h1 : (xn.toList == [0])
      · have HG := hide (HBad.out (by rw [HC.out, h1]; rfl))
        go_wp2_with fail
        exact bodyPost_ret (v := .tuple #[.agg #[.bool false, .int .i64 0, .int .i64 0, .int .i64 0, .bool false], .int .i64 7]) (by simp [results, Tryd.results11, go_sem, c0, c1, c2, c3, c4]) rfl (HE.out _ 7 HG.out (HX.out _ K.out _ _ _ _ _))
      by_cases h2 : xc < 0
      · have HG := hide (HBad.out (by rw [HC.out, show fitB xc 65535 = false from decide_eq_false (by omega)]; simp))
        go_wp2_with fail
        exact bodyPost_ret (v := .tuple #[.agg #[.bool false, .int .i64 0, .int .i64 0, .int .i64 0, .bool false], .int .i64 7]) (by simp [results, Tryd.results11, go_sem, c0, c1, c2, c3, c4]) rfl (HE.out _ 7 HG.out (HX.out _ K.out _ _ _ _ _))
      by_cases h3 : 65535 < xc
      · have HG := hide (HBad.out (by rw [HC.out, show fitB xc 65535 = false from decide_eq_false (by omega)]; simp))
        go_wp2_with fail
        exact bodyPost_ret (v := .tuple #[.agg #[.bool false, .int .i64 0, .int .i64 0, .int .i64 0, .bool false], .int .i64 7]) (by simp [results, Tryd.results11, go_sem, c0, c1, c2, c3, c4]) rfl (HE.out _ 7 HG.out (HX.out _ K.out _ _ _ _ _))
      by_cases h4 : xl < 0
      · have HG := hide (HBad.out (by rw [HC.out, show fitB xl 4294967295 = false from decide_eq_false (by omega)]; simp))
        go_wp2_with fail
        exact bodyPost_ret (v := .tuple #[.agg #[.bool false, .int .i64 0, .int .i64 0, .int .i64 0, .bool false], .int .i64 7]) (by simp [results, Tryd.results11, go_sem, c0, c1, c2, c3, c4]) rfl (HE.out _ 7 HG.out (HX.out _ K.out _ _ _ _ _))
      by_cases h5 : 4294967296 ≤ xl
      · have HG := hide (HBad.out (by rw [HC.out, show fitB xl 4294967295 = false from decide_eq_false (by omega)]; simp))
        go_wp2_with fail
        exact bodyPost_ret (v := .tuple #[.agg #[.bool false, .int .i64 0, .int .i64 0, .int .i64 0, .bool false], .int .i64 7]) (by simp [results, Tryd.results11, go_sem, c0, c1, c2, c3, c4]) rfl (HE.out _ 7 HG.out (HX.out _ K.out _ _ _ _ _))
      have HG : Hid (R = (O, 0)) := by
        rw [Hid, HG0.out, HC.out, h1, show fitB xc 65535 = true from decide_eq_true (by omega), show fitB xl 4294967295 = true from decide_eq_true (by omega)]
        rfl
      clear HG0 HBad HC
      go_wp2_with fail
      exact bodyPost_ret (v := .tuple #[.agg #[.bool true, .int .i64 xc, .int .i64 (xl / 16777216), .int .i64 (xl / 65536 % 256), .bool (xl / 32768 % 2 == 1)], .int .i64 0]) (by simp [results, Tryd.results11, go_sem, c0, c1, c2, c3, c4]) rfl ⟨by rw [HG.out, HO.out]; rfl, HX.out _ K.out _ _ _ _ _⟩
    · obtain rfl : j = l.length := by omega
      rw [List.take_length] at HA
      have HG := hide (HF2.out.trans (HN0.out HA.out))
      obtain ⟨c0, c1, c2, c3, c4, f0, f1, f2, f3, f4, glt⟩ := B2.out.cell5
      go_wp2_with fail
      exact bodyPost_ret (v := .tuple #[.agg #[.bool false, .int .i64 0, .int .i64 0, .int .i64 0, .bool false], .int .i64 0]) (by simp [results, Tryd.results11, go_sem, c0, c1, c2, c3, c4]) rfl (HE.out _ 0 HG.out (HX.out _ K.out _ _ _ _ _))
end Go.Proofs.YtojihkejlmggcaaDoor
