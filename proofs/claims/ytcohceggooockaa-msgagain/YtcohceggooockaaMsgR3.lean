/- What the document's few and Small of layer 8 answer. No condition. -/
import Derived.Test.YtcohceggooockaaMsgWA
namespace Go.Proofs.Ytcohceggooockaa
open Go.RowKit

def fewB (r : Rec) : Bool := decide (r.n.size ≤ 300) && decide (r.d.size ≤ 70000)
def smallQ (q : Qn) : Bool := decide (q.n.size ≤ 300)
def smallM (m : Ms) : Bool := decide (m.qs.length + m.an.length + m.ns.length + m.ar.length ≤ 200) && m.qs.all smallQ && m.an.all fewB && m.ns.all fewB && m.ar.all fewB

set_option maxHeartbeats 4000000 in
set_option maxRecDepth 100000 in
theorem few_any (v : Value) (l : List Rec) (w : World) (hr : ReadRow w v 5 (l.map recL8)) (hl : l.length ≤ maxLen) (hf : ∀ x ∈ l, x.n.size ≤ maxLen ∧ x.d.size ≤ maxLen) :
    Calls Try.prog 33 #[v] w fun e w' => e = .returned (.bool (l.all fewB)) ∧ Keeps w w' := by
  have hl' := hl
  unfold maxLen at hl'
  obtain ⟨a, cap, hv⟩ := hr.len
  rw [List.length_map] at hv
  subst hv
  have HF := hide hf
  clear hf
  go_enter Try.func33, Try.ntmps33
  go_wp2
  go_loopw [3] (fun i wr => ∃ j : Nat, j ≤ l.length ∧ i = .int .i64 j ∧ Hid ((l.take j).all fewB = true) ∧ Keeps w wr) (fun i _ => l.length - (intOf i).toNat)
  case atStart => exact ⟨0, by omega, rfl, by simp [Hid], Keeps.refl _⟩
  case round =>
    obtain ⟨j, hj, rfl, HA, K⟩ := hrel
    have hr2 := hr.keeps K
    by_cases hlt : j < l.length
    · have i2 : (j : Int) < (l.length : Int) := by omega
      have i0 : (0 : Int) ≤ (j : Int) := by omega
      obtain ⟨b, off, rfl, _, _⟩ := hr2.parts (by rw [List.length_map]; omega)
      obtain ⟨c0, c1, c2, c3, c4⟩ := row5 hr2 hlt
      have hx := HF.out _ (List.getElem_mem hlt)
      have HS := hide (all_take (f := fewB) hlt)
      have HN := hide (all_no (f := fewB) hlt)
      have HB := hide (show fewB l[j] = (decide (l[j].n.size ≤ 300) && decide (l[j].d.size ≤ 70000)) from rfl)
      generalize hoo : off + j * 5 = o at *
      generalize l[j] = x at *
      clear hr2 hr
      unfold maxLen at hx
      by_cases h1 : (300 : Int) < (x.n.size : Int)
      · have HE := hide (HN.out (by rw [HB.out, decide_eq_false (by omega)]; rfl))
        clear HN HS HB
        go_wp2
        go_ret
        exact ⟨ret_bool HE.out.symm, K⟩
      · by_cases h2 : (70000 : Int) < (x.d.size : Int)
        · have HE := hide (HN.out (by rw [HB.out, decide_eq_false (p := x.d.size ≤ 70000) (by omega)]; simp))
          clear HN HS HB
          go_wp2
          go_ret
          exact ⟨ret_bool HE.out.symm, K⟩
        · have HE := hide (show (l.take (j + 1)).all fewB = true by rw [HS.out, HA.out, HB.out, decide_eq_true (by omega), decide_eq_true (by omega)]; rfl)
          clear HN HS HB HA
          go_wp2
          go_roundw
          case rel => exact ⟨j + 1, by omega, by go_num, HE, K⟩
          case measure => simp [intOf]; omega
    · obtain rfl : j = l.length := by omega
      rw [List.take_length] at HA
      go_wp2
      go_ret
      exact ⟨ret_bool HA.out.symm, K⟩

set_option maxHeartbeats 8000000 in
set_option maxRecDepth 100000 in
theorem Small_any (v : Value) (m : Ms) (w : World) (h : MsAt w v m) (hf : MsFine m) (hlens : m.qs.length + m.an.length + m.ns.length + m.ar.length ≤ 9223372036854775807) :
    Calls Try.prog 15 #[v] w fun e w' => e = .returned (.bool (smallM m)) ∧ Keeps w w' := by
  obtain ⟨vq, va, vn, vr, rfl, rq, ra, rn, rr⟩ := h
  obtain ⟨⟨q1, q2⟩, ⟨a1, a2⟩, ⟨n1, n2⟩, ⟨r1, r2⟩⟩ := hf
  obtain ⟨aq, kq, e1⟩ := rq.len
  obtain ⟨aa, ka, e2⟩ := ra.len
  obtain ⟨an, kn, e3⟩ := rn.len
  obtain ⟨ar, kr, e4⟩ := rr.len
  rw [List.length_map] at e1 e2 e3 e4
  subst e1 e2 e3 e4
  have HM := hide (show smallM m = (decide (m.qs.length + m.an.length + m.ns.length + m.ar.length ≤ 200) && m.qs.all smallQ && m.an.all fewB && m.ns.all fewB && m.ar.all fewB) from rfl)
  have HA := hide (fun W (k : Keeps w W) => few_any _ m.an W (ra.keeps k) a1 a2)
  have HN := hide (fun W (k : Keeps w W) => few_any _ m.ns W (rn.keeps k) n1 n2)
  have HR := hide (fun W (k : Keeps w W) => few_any _ m.ar W (rr.keeps k) r1 r2)
  have HQ := hide q2
  unfold maxLen at q1
  clear ra rn rr a1 a2 n1 n2 r1 r2 q2
  have B := Blk.made w #[.int .i64 m.id, .int .i64 m.bits, .slice aq m.qs.length kq, .slice aa m.an.length ka, .slice an m.ns.length kn, .slice ar m.ar.length kr] 26
  have K := (Keeps.refl w).alloc (.cells #[.int .i64 m.id, .int .i64 m.bits, .slice aq m.qs.length kq, .slice aa m.an.length ka, .slice an m.ns.length kn, .slice ar m.ar.length kr] 26)
  replace B := hide B
  replace K := hide K
  generalize smallM m = R at *
  generalize m.id = I at *
  generalize m.bits = J at *
  generalize m.an.all fewB = XA at *
  generalize m.ns.all fewB = XN at *
  generalize m.ar.all fewB = XR at *
  generalize m.an.length = la at *
  generalize m.ns.length = ln at *
  generalize m.ar.length = lr at *
  generalize m.qs = l at *
  by_cases hbig : (200 : Int) < (l.length : Int) + la + ln + lr
  · rw [decide_eq_false (by omega)] at HM
    go_enter Try.func15, Try.ntmps15
    go_wp2
    go_ret
    exact ⟨ret_bool (by rw [HM.out]; simp), K.out⟩
  · rw [decide_eq_true (by omega)] at HM
    go_enter Try.func15, Try.ntmps15
    go_wp2_with fail
    generalize w.alloc (.cells #[.int .i64 I, .int .i64 J, .slice aq l.length kq, .slice aa la ka, .slice an ln kn, .slice ar lr kr] 26) = W at *
    generalize w.heap.size = M at *
    go_loopw [4] (fun i wr => ∃ j : Nat, j ≤ l.length ∧ i = .int .i64 j ∧ Hid ((l.take j).all smallQ = true) ∧ Blk wr M #[.int .i64 I, .int .i64 J, .slice aq l.length kq, .slice aa la ka, .slice an ln kn, .slice ar lr kr] 26 ∧ Keeps w wr) (fun i _ => l.length - (intOf i).toNat)
    case atStart => exact ⟨0, by omega, rfl, by simp [Hid], B.out, K.out⟩
    case round =>
      clear B K
      obtain ⟨j, hj, rfl, HT, B, K⟩ := hrel
      obtain ⟨y0, y1, y2, y3, y4, y5, y6⟩ := B.six6
      by_cases hlt : j < l.length
      · have hr2 := rq.keeps K
        have i2 : (j : Int) < (l.length : Int) := by omega
        have i0 : (0 : Int) ≤ (j : Int) := by omega
        obtain ⟨b, off, rfl, _, _⟩ := hr2.parts (by rw [List.length_map]; omega)
        obtain ⟨c0, c1, c2⟩ := row3 hr2 hlt
        have hx := HQ.out _ (List.getElem_mem hlt)
        have HS := hide (all_take (f := smallQ) hlt)
        have HX := hide (all_no (f := smallQ) hlt)
        have HB := hide (show smallQ l[j] = decide (l[j].n.size ≤ 300) from rfl)
        generalize hoo : off + j * 3 = o at *
        generalize l[j] = x at *
        clear hr2
        unfold maxLen at hx
        replace B := hide B
        by_cases h1 : (300 : Int) < (x.n.size : Int)
        · have HE := hide (HX.out (by rw [HB.out, decide_eq_false (by omega)]))
          clear HX HS HB
          go_wp2
          go_ret
          exact ⟨ret_bool (by rw [HM.out, HE.out]; rfl), K⟩
        · have HE := hide (show (l.take (j + 1)).all smallQ = true by rw [HS.out, HT.out, HB.out, decide_eq_true (by omega)]; rfl)
          clear HX HS HB HT
          go_wp2
          go_roundw
          case rel => exact ⟨j + 1, by omega, by go_num, HE, B.out, K⟩
          case measure => simp [intOf]; omega
      · obtain rfl : j = l.length := by omega
        rw [List.take_length] at HT
        rw [HT.out] at HM
        clear HT rq
        go_wp2_with fail
        refine (HA.out _ K).mono ?_
        rintro e w1 ⟨rfl, k1⟩
        replace B := B.keeps k1
        replace K := K.trans k1
        clear y0 y1 y2 y3 y4 y5 y6 k1
        cases XA
        · go_wp2
          go_ret
          exact ⟨ret_bool (by rw [HM.out]; simp), K⟩
        obtain ⟨y0, y1, y2, y3, y4, y5, y6⟩ := B.six6
        go_wp2_with fail
        refine (HN.out _ K).mono ?_
        rintro e w2 ⟨rfl, k1⟩
        replace B := B.keeps k1
        replace K := K.trans k1
        clear y0 y1 y2 y3 y4 y5 y6 k1
        cases XN
        · go_wp2
          go_ret
          exact ⟨ret_bool (by rw [HM.out]; simp), K⟩
        obtain ⟨y0, y1, y2, y3, y4, y5, y6⟩ := B.six6
        go_wp2_with fail
        refine (HR.out _ K).mono ?_
        rintro e w3 ⟨rfl, k1⟩
        replace K := K.trans k1
        clear y0 y1 y2 y3 y4 y5 y6 k1 B
        go_wp2
        go_ret
        exact ⟨ret_bool (by rw [HM.out]; simp), K⟩
end Go.Proofs.Ytcohceggooockaa
