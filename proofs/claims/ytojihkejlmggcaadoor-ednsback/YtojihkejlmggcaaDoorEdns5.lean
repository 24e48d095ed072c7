/- What Find of package edns tells. No condition. -/
import Derived.Test.YtojihkejlmggcaaDoorEdns4
namespace Go.Proofs.YtojihkejlmggcaaDoor
open Go.RowKit

theorem find_none {l : List Rec} (h : l.any optB = false) : findR l = (noOp, 0) := by
  have : l.filter optB = [] := List.filter_eq_nil_iff.2 fun x hx => by have := List.any_eq_false.1 h x hx; simpa using this
  rw [findR, this]
theorem filter_first {l : List Rec} (h : l.any optB = true) : ∃ j, ∃ hj : j < l.length, idxI l = (j : Nat) ∧ l.filter optB = l[j] :: (l.drop (j + 1)).filter optB := by
  induction l with
  | nil => simp at h
  | cons x l ih =>
    cases hx : optB x
    · have h2 : l.any optB = true := by simpa [hx] using h
      obtain ⟨j, hj, h3, h4⟩ := ih h2
      refine ⟨j + 1, by simp; omega, ?_, by simp [hx, h4]⟩
      rw [idxI, if_pos h]
      rw [idxI, if_pos h2] at h3
      simp only [List.findIdx_cons, hx, cond_false]
      omega
    · refine ⟨0, by simp, ?_, by simp [hx]⟩
      rw [idxI, if_pos h]
      simp [List.findIdx_cons, hx]
theorem find_bad {l : List Rec} {r : Rec} {k : List Rec} (h : l.filter optB = r :: k.filter optB) (hc : canB r = false) : findR l = (noOp, 7) := by
  rw [findR, h]
  cases hk : k.filter optB
  · simp [hc]
  · rfl
theorem find_two {l : List Rec} {r : Rec} {k : List Rec} (h : l.filter optB = r :: k.filter optB) (hc : k.any optB = true) : findR l = (noOp, 7) := by
  rw [findR, h]
  cases hk : k.filter optB
  · obtain ⟨x, hx, h2⟩ := List.any_eq_true.1 hc
    have := List.filter_eq_nil_iff.1 hk x hx
    exact absurd h2 this
  · rfl
theorem find_one {l : List Rec} {r : Rec} {k : List Rec} (h : l.filter optB = r :: k.filter optB) (hn : k.any optB = false) (hc : canB r = true) : findR l = (opOf r, 0) := by
  have : k.filter optB = [] := List.filter_eq_nil_iff.2 fun x hx => by have := List.any_eq_false.1 hn x hx; simpa using this
  rw [findR, h, this]
  simp [hc]
/-- A slice of structs, from one of them on. -/
theorem ReadRow.drop {w : World} {b off n cap c : Nat} {rows : List (List Value)} (h : ReadRow w (.slice (some ⟨b, off, none⟩) n cap) c rows) (k o m cap2 : Nat) (hk : k ≤ n) (ho : o = off + k * c) (hm : m = n - k) (hcap : cap2 = cap - k) :
    ReadRow w (.slice (some ⟨b, o, none⟩) m cap2) c (rows.drop k) := by
  subst ho hm hcap
  obtain ⟨a', cap', h1, h2, h3⟩ := h
  simp only [Value.slice.injEq] at h1
  obtain ⟨rfl, rfl, rfl⟩ := h1
  refine ⟨_, _, by rw [List.length_drop], by rw [List.length_drop]; omega, fun hp => ?_⟩
  rw [List.length_drop] at hp
  obtain ⟨b', off', h4, h5, h6⟩ := h3 (by omega)
  simp only [Option.some.injEq, Addr.mk.injEq, and_true] at h4
  obtain ⟨rfl, rfl⟩ := h4
  refine ⟨b, off + k * c, rfl, h5, fun i hi j hj => ?_⟩
  rw [List.length_drop] at hi
  have := h6 (k + i) (by omega) j hj
  rw [List.getElem_drop, ← this, Nat.add_mul]
  congr 2
  omega

set_option maxHeartbeats 4000000 in
set_option maxRecDepth 100000 in
theorem Find_any (v : Value) (m : Ms) (w : World) (hM : MsAt w v m) (hf : MsFine m) :
    Calls Tryd.prog 10 #[v] w fun e w' => e = .returned (.tuple #[opV (findM m).1, .int .i64 (findM m).2]) ∧ Keeps w w' := by
  have HF := hide (show findM m = if m.an.any optB || m.ns.any optB then (noOp, 7) else findR m.ar from rfl)
  obtain ⟨vq, va, vn, vr, rfl, rq, ra, rn, rr⟩ := hM
  obtain ⟨_, ⟨a1, _⟩, ⟨n1, _⟩, ⟨r1, _⟩⟩ := hf
  obtain ⟨aq, kq, e1⟩ := rq.len
  obtain ⟨aa, ka, e2⟩ := ra.len
  obtain ⟨an, kn, e3⟩ := rn.len
  obtain ⟨ar, kr, e4⟩ := rr.len
  rw [List.length_map] at e1 e2 e3 e4
  subst e1 e2 e3 e4
  have HA := hide (fun W (k : Keeps w W) => contains_any _ m.an W (ra.keeps k) a1)
  have HN := hide (fun W (k : Keeps w W) => contains_any _ m.ns W (rn.keeps k) n1)
  have HI := hide (fun W (k : Keeps w W) => idx_any _ m.ar W (rr.keeps k) r1)
  have RR := hide rr
  have rl := r1
  unfold maxLen at rl
  clear rq ra rn rr a1 n1 r1
  have B := hide ((Blk.made w #[.int .i64 m.id, .int .i64 m.bits, .slice aq m.qs.length kq, .slice aa m.an.length ka, .slice an m.ns.length kn, .slice ar m.ar.length kr] 25).alloc (.cells #[.bool false, .int .i64 0, .int .i64 0, .int .i64 0, .bool false] 29))
  have B2 := Blk.made (w.alloc (.cells #[.int .i64 m.id, .int .i64 m.bits, .slice aq m.qs.length kq, .slice aa m.an.length ka, .slice an m.ns.length kn, .slice ar m.ar.length kr] 25)) #[.bool false, .int .i64 0, .int .i64 0, .int .i64 0, .bool false] 29
  rw [size_alloc] at B2
  replace B2 := hide B2
  have K := hide (((Keeps.refl w).alloc (.cells #[.int .i64 m.id, .int .i64 m.bits, .slice aq m.qs.length kq, .slice aa m.an.length ka, .slice an m.ns.length kn, .slice ar m.ar.length kr] 25)).alloc (.cells #[.bool false, .int .i64 0, .int .i64 0, .int .i64 0, .bool false] 29))
  generalize findM m = R at *
  generalize m.id = I at *
  generalize m.bits = J at *
  generalize m.an.any optB = XA at *
  generalize m.ns.any optB = XN at *
  generalize m.an.length = la at *
  generalize m.ns.length = ln at *
  generalize m.qs.length = lq at *
  generalize m.ar = l at *
  go_enter Tryd.func10, Tryd.ntmps10
  go_upto_region 1 with fail
  generalize (w.alloc (.cells #[.int .i64 I, .int .i64 J, .slice aq lq kq, .slice aa la ka, .slice an ln kn, .slice ar l.length kr] 25)).alloc (.cells #[.bool false, .int .i64 0, .int .i64 0, .int .i64 0, .bool false] 29) = W at *
  have HX : Hid (∀ W', Keeps w W' → ∀ a b c d e, Keeps w (((((W'.setCell ⟨w.heap.size + 1, 0, none⟩ a).setCell ⟨w.heap.size + 1, 1, none⟩ b).setCell ⟨w.heap.size + 1, 2, none⟩ c).setCell ⟨w.heap.size + 1, 3, none⟩ d).setCell ⟨w.heap.size + 1, 4, none⟩ e)) := fun W' k a b c d e => Keeps.five k (Nat.le_succ _) a b c d e
  generalize w.heap.size + 1 = G2 at *
  generalize hGG : w.heap.size = G at *
  clear hGG
  have HE : Hid (∀ (W' : World) (E : Nat), R = (noOp, E) → Keeps w W' → Ending.returned (.tuple #[.agg #[.bool false, .int .i64 0, .int .i64 0, .int .i64 0, .bool false], .int .i64 E]) = Ending.returned (.tuple #[opV R.1, .int .i64 R.2]) ∧ Keeps w W') := fun W' E h k => ⟨by rw [h]; rfl, k⟩
  obtain ⟨y0, y1, y2, y3, y4, y5, y6⟩ := B.out.six6
  go_wp2_with fail
  refine (HA.out _ K.out).mono ?_
  rintro e w1 ⟨rfl, k1⟩
  replace B := hide (B.out.keeps k1)
  replace B2 := hide (B2.out.keeps k1)
  replace K := hide (K.out.trans k1)
  clear k1 y0 y1 y2 y3 y4 y5 y6 HA
  cases XA
  case true =>
    obtain ⟨c0, c1, c2, c3, c4, f0, f1, f2, f3, f4, glt⟩ := B2.out.cell5
    go_wp2_with fail
    exact bodyPost_ret (v := .tuple #[.agg #[.bool false, .int .i64 0, .int .i64 0, .int .i64 0, .bool false], .int .i64 7]) (by simp [results, Tryd.results10, go_sem, c0, c1, c2, c3, c4]) rfl (HE.out _ 7 (by rw [HF.out]; rfl) (HX.out _ K.out _ _ _ _ _))
  obtain ⟨y0, y1, y2, y3, y4, y5, y6⟩ := B.out.six6
  go_wp2_with fail
  refine (HN.out _ K.out).mono ?_
  rintro e w2 ⟨rfl, k1⟩
  replace B := hide (B.out.keeps k1)
  replace B2 := hide (B2.out.keeps k1)
  replace K := hide (K.out.trans k1)
  clear k1 y0 y1 y2 y3 y4 y5 y6 HN
  cases XN
  case true =>
    obtain ⟨c0, c1, c2, c3, c4, f0, f1, f2, f3, f4, glt⟩ := B2.out.cell5
    go_wp2_with fail
    exact bodyPost_ret (v := .tuple #[.agg #[.bool false, .int .i64 0, .int .i64 0, .int .i64 0, .bool false], .int .i64 7]) (by simp [results, Tryd.results10, go_sem, c0, c1, c2, c3, c4]) rfl (HE.out _ 7 (by rw [HF.out]; rfl) (HX.out _ K.out _ _ _ _ _))
  have HF2 : Hid (R = findR l) := HF.out
  clear HF
  obtain ⟨y0, y1, y2, y3, y4, y5, y6⟩ := B.out.six6
  go_wp2_with fail
  refine (HI.out _ K.out).mono ?_
  rintro e w3 ⟨rfl, k1⟩
  replace B := hide (B.out.keeps k1)
  replace B2 := hide (B2.out.keeps k1)
  replace K := hide (K.out.trans k1)
  clear k1 y0 y1 y2 y3 y4 y5 y6 HI
  by_cases hany : ¬ l.any optB = true
  · simp only [Bool.not_eq_true] at hany
    have hi : idxI l = -1 := by rw [idxI, hany]; rfl
    rw [hi]
    have HG := hide (HF2.out.trans (find_none hany))
    clear hany hi HF2
    obtain ⟨c0, c1, c2, c3, c4, f0, f1, f2, f3, f4, glt⟩ := B2.out.cell5
    go_wp2_with fail
    exact bodyPost_ret (v := .tuple #[.agg #[.bool false, .int .i64 0, .int .i64 0, .int .i64 0, .bool false], .int .i64 0]) (by simp [results, Tryd.results10, go_sem, c0, c1, c2, c3, c4]) rfl (HE.out _ 0 HG.out (HX.out _ K.out _ _ _ _ _))
  simp only [Decidable.not_not] at hany
  obtain ⟨j, hj, hi, hfl⟩ := filter_first hany
  rw [hi]
  have HFL := hide hfl
  clear hany hi hfl
  have i2 : (j : Int) < (l.length : Int) := by omega
  have i0 : (0 : Int) ≤ (j : Int) := by omega
  obtain ⟨b, off, rfl, _, _⟩ := (RR.out).parts (by rw [List.length_map]; omega)
  obtain ⟨y0, y1, y2, y3, y4, y5, y6⟩ := B.out.six6
  obtain ⟨q0, q1, q2, q3, q4⟩ := row5 (RR.out.keeps K.out) hj
  have HC := hide (fun W => canRead_any l[j] W)
  have HD := hide (fun W (vv : Value) (hvv : ReadRow W vv 5 ((l.drop (j + 1)).map recL8)) => contains_any vv (l.drop (j + 1)) W hvv (by simp; unfold maxLen; omega))
  have hkr : l.length ≤ kr := by
    obtain ⟨a', cap', g1, g2, _⟩ := RR.out
    simp only [Value.slice.injEq] at g1
    rw [List.length_map] at g2
    omega
  have HZ1 : Hid (∀ W, Keeps w W → ReadRow W (.slice (some ⟨b, off + (j + 1) * 5, none⟩) (l.length - (j + 1)) (kr - (j + 1))) 5 ((l.drop (j + 1)).map recL8)) := fun W k => by rw [List.map_drop]; exact (RR.out.keeps k).drop (j + 1) _ _ _ hj rfl rfl rfl
  have HZ2 : Hid (∀ W a c, kr = j + 1 → ReadRow W (.slice a (l.length - (j + 1)) c) 5 ((l.drop (j + 1)).map recL8)) := fun W a c h => by
    have e1 : l.length - (j + 1) = 0 := by omega
    have e2 : l.drop (j + 1) = [] := List.drop_eq_nil_of_le (by omega)
    rw [e1, e2]
    exact ReadRow.nil
  have HRO := hide (fun W => readOpt_any l[j] W)
  have HQ := hide (fun W (k : Keeps w W) => row5 (RR.out.keeps k) hj)
  generalize hoo : off + j * 5 = o at *
  generalize hx : l[j] = x at *
  clear hx
  obtain ⟨xn, xt, xc, xl, xd⟩ := x
  unfold recV at HC HRO
  unfold opV opOf at HRO
  have HU := hide RR.out
  clear RR
  go_wp2_with fail
  refine (HC.out _).mono ?_
  rintro e w4 ⟨rfl, k1⟩
  replace B := hide (B.out.keeps k1)
  replace B2 := hide (B2.out.keeps k1)
  replace K := hide (K.out.trans k1)
  clear k1 y0 y1 y2 y3 y4 y5 y6 HC q0 q1 q2 q3 q4
  cases hcan : canB ⟨xn, xt, xc, xl, xd⟩
  · have HG := hide (HF2.out.trans (find_bad HFL.out hcan))
    clear hcan HF2 HFL
    obtain ⟨c0, c1, c2, c3, c4, f0, f1, f2, f3, f4, glt⟩ := B2.out.cell5
    go_wp2_with fail
    exact bodyPost_ret (v := .tuple #[.agg #[.bool false, .int .i64 0, .int .i64 0, .int .i64 0, .bool false], .int .i64 7]) (by simp [results, Tryd.results10, go_sem, c0, c1, c2, c3, c4]) rfl (HE.out _ 7 HG.out (HX.out _ K.out _ _ _ _ _))
  obtain ⟨y0, y1, y2, y3, y4, y5, y6⟩ := B.out.six6
  go_wp2_with fail
  all_goals
    refine (HD.out _ _ (by first | exact HZ1.out _ K.out | exact HZ2.out _ _ _ (by first | assumption | omega))).mono ?_
    rintro e w5 ⟨rfl, k1⟩
    replace B := hide (B.out.keeps k1)
    replace B2 := hide (B2.out.keeps k1)
    replace K := hide (K.out.trans k1)
    clear k1 y0 y1 y2 y3 y4 y5 y6 HD HZ1 HZ2
    cases hrest : (l.drop (j + 1)).any optB
    · have HG := hide (HF2.out.trans (find_one HFL.out hrest hcan))
      clear HF2 HFL hrest
      obtain ⟨y0, y1, y2, y3, y4, y5, y6⟩ := B.out.six6
      obtain ⟨q0, q1, q2, q3, q4⟩ := HQ.out _ K.out
      go_wp2_with fail
      refine (HRO.out _ hcan).mono ?_
      rintro e w6 ⟨rfl, k1⟩
      replace B2 := hide (B2.out.keeps k1)
      replace K := hide (K.out.trans k1)
      clear k1 y0 y1 y2 y3 y4 y5 y6 q0 q1 q2 q3 q4 HRO HQ
      obtain ⟨c0, c1, c2, c3, c4, f0, f1, f2, f3, f4, glt⟩ := B2.out.cell5
      go_wp2_with fail
      exact bodyPost_ret (v := .tuple #[.agg #[.bool true, .int .i64 xc, .int .i64 (xl / 16777216), .int .i64 (xl / 65536 % 256), .bool (xl / 32768 % 2 == 1)], .int .i64 0]) (by simp [results, Tryd.results10, go_sem, c0, c1, c2, c3, c4]) rfl ⟨by rw [HG.out]; rfl, HX.out _ K.out _ _ _ _ _⟩
    · have HG := hide (HF2.out.trans (find_two HFL.out hrest))
      clear HF2 HFL hrest hcan
      obtain ⟨c0, c1, c2, c3, c4, f0, f1, f2, f3, f4, glt⟩ := B2.out.cell5
      go_wp2_with fail
      exact bodyPost_ret (v := .tuple #[.agg #[.bool false, .int .i64 0, .int .i64 0, .int .i64 0, .bool false], .int .i64 7]) (by simp [results, Tryd.results10, go_sem, c0, c1, c2, c3, c4]) rfl (HE.out _ 7 HG.out (HX.out _ K.out _ _ _ _ _))
end Go.Proofs.YtojihkejlmggcaaDoor
