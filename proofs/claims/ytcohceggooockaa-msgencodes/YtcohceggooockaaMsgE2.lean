/- The document's Check of messages. No condition but lengths. -/
import Derived.Test.YtcohceggooockaaMsgE1
namespace Go.Proofs.Ytcohceggooockaa
open Go.RowKit

theorem msOk_doc (m : Ms) : msOk m = (m.qs.all qnOk && (num2 m.id && num2 m.bits && num2 m.qs.length && rsOk m.an && rsOk m.ns && rsOk m.ar)) := by
  rw [msOk_parts]
  unfold qsOk
  cases m.qs.all qnOk <;> cases num2 m.id <;> cases num2 m.bits <;> cases num2 m.qs.length <;> simp

set_option maxHeartbeats 8000000 in
set_option maxRecDepth 100000 in
theorem refCheck8_any (v : Value) (m : Ms) (w : World) (h : MsAt w v m) (hf : MsFine m) :
    Calls Try.prog 19 #[v] w fun e w' => e = .returned (.bool (msOk m)) ∧ Keeps w w' := by
  obtain ⟨vq, va, vn, vr, rfl, rq, ra, rn, rr⟩ := h
  obtain ⟨⟨q1, q2⟩, ⟨a1, a2⟩, ⟨n1, n2⟩, ⟨r1, r2⟩⟩ := hf
  have q1' := q1
  unfold maxLen at q1'
  have HM := hide (msOk_doc m)
  have HI := hide (small8_any m.id)
  have HJ := hide (small8_any m.bits)
  have HL := hide (small8_any m.qs.length)
  have HA := hide (fun W (k : Keeps w W) => records8_any va m.an W (ra.keeps k) a1 a2)
  have HN := hide (fun W (k : Keeps w W) => records8_any vn m.ns W (rn.keeps k) n1 n2)
  have HR := hide (fun W (k : Keeps w W) => records8_any vr m.ar W (rr.keeps k) r1 r2)
  obtain ⟨a, cap, hv⟩ := rq.len
  rw [List.length_map] at hv
  subst hv
  have RQ := hide rq
  have Q2 := hide q2
  clear rq ra rn rr q2 a1 a2 n1 n2 r1 r2
  have B := hide (Blk.made w #[.int .i64 m.id, .int .i64 m.bits, .slice a m.qs.length cap, va, vn, vr] 26)
  have K := hide ((Keeps.refl w).alloc (.cells #[.int .i64 m.id, .int .i64 m.bits, .slice a m.qs.length cap, va, vn, vr] 26))
  generalize msOk m = R at *
  generalize hXI : num2 m.id = XI at *
  generalize hXJ : num2 m.bits = XJ at *
  generalize hXL : num2 m.qs.length = XL at *
  generalize rsOk m.an = XA at *
  generalize rsOk m.ns = XN at *
  generalize rsOk m.ar = XR at *
  replace hXI := hide hXI
  replace hXJ := hide hXJ
  replace hXL := hide hXL
  go_enter Try.func19, Try.ntmps19
  go_upto_region 1 with fail
  generalize w.alloc (.cells #[.int .i64 m.id, .int .i64 m.bits, .slice a m.qs.length cap, va, vn, vr] 26) = W at *
  generalize w.heap.size = M at *
  have b0 := B.out.cell 0
  have b1 := B.out.cell 1
  have b2 := B.out.cell 2
  have b3 := B.out.cell 3
  have b4 := B.out.cell 4
  have b5 := B.out.cell 5
  simp only [List.getElem?_toArray, List.getElem?_cons_zero, List.getElem?_cons_succ] at b0 b1 b2 b3 b4 b5
  go_wp2_with fail
  clear b0 b1 b2 b3 b4 b5
  go_loopw [3] (fun i wr => ∃ j : Nat, j ≤ m.qs.length ∧ i = .int .i64 j ∧ Hid ((m.qs.take j).all qnOk = true) ∧ Blk wr M #[.int .i64 m.id, .int .i64 m.bits, .slice a m.qs.length cap, va, vn, vr] 26 ∧ Keeps w wr) (fun i _ => m.qs.length - (intOf i).toNat)
  case atStart => exact ⟨0, by omega, rfl, by simp [Hid], B.out, K.out⟩
  case round =>
    clear B K
    obtain ⟨j, hj, rfl, HG, B, K⟩ := hrel
    replace B := hide B
    replace K := hide K
    have b0 := B.out.cell 0
    have b1 := B.out.cell 1
    have b2 := B.out.cell 2
    have b3 := B.out.cell 3
    have b4 := B.out.cell 4
    have b5 := B.out.cell 5
    simp only [List.getElem?_toArray, List.getElem?_cons_zero, List.getElem?_cons_succ] at b0 b1 b2 b3 b4 b5
    by_cases hlt : j < m.qs.length
    · have i2 : (j : Int) < (m.qs.length : Int) := by omega
      have i0 : (0 : Int) ≤ (j : Int) := by omega
      have hr2 := RQ.out.keeps K.out
      obtain ⟨b, off, rfl, _, _⟩ := hr2.parts (by rw [List.length_map]; omega)
      obtain ⟨c0, c1, c2⟩ := row3 hr2 hlt
      have hx := Q2.out _ (List.getElem_mem hlt)
      have HS := hide (all_take (f := qnOk) hlt)
      have HNo := hide (all_no (f := qnOk) hlt)
      have HC := hide (fun W => refcheck_any m.qs[j].n W hx)
      have HT := hide (small8_any m.qs[j].t)
      have HU := hide (small8_any m.qs[j].c)
      have HOK := hide (show qnOk m.qs[j] = (Nm.okL (bl m.qs[j].n) && num2 m.qs[j].t && num2 m.qs[j].c) from rfl)
      generalize hoo : off + j * 3 = o at *
      generalize m.qs[j] = x at *
      clear hr2 hx
      have Bx := hide (Blk.made wr #[.string x.n, .int .i64 x.t, .int .i64 x.c] 42)
      have k1 := (Keeps.refl wr).alloc (.cells #[.string x.n, .int .i64 x.t, .int .i64 x.c] 42)
      replace B := hide (B.out.keeps k1)
      replace K := hide (K.out.trans k1)
      clear k1
      go_upto_region 5 with fail
      clear c0 c1 c2 b0 b1 b2 b3 b4 b5
      generalize wr.alloc (.cells #[.string x.n, .int .i64 x.t, .int .i64 x.c] 42) = W1 at *
      generalize wr.heap.size = Gx at *
      generalize Nm.okL (bl x.n) = k0 at *
      generalize hk1 : num2 x.t = k1 at *
      generalize hk2 : num2 x.c = k2 at *
      generalize hkx : qnOk x = kx at *
      replace hk1 := hide hk1
      replace hk2 := hide hk2
      replace hkx := hide hkx
      obtain ⟨⟨x0, x1, x2⟩, _, _⟩ := Bx.out.three
      go_wp2_with fail
      refine (HC.out _).mono ?_
      rintro e w5 ⟨rfl, k5⟩
      replace B := hide (B.out.keeps k5)
      replace K := hide (K.out.trans k5)
      replace Bx := hide (Bx.out.keeps k5)
      clear k5
      clear x0 x1 x2
      obtain ⟨⟨x0, x1, x2⟩, _, _⟩ := Bx.out.three
      cases k0
      · have HE : Hid (R = false) := by
          have e : kx = false := by rw [HOK.out]; simp
          rw [Hid, HM.out, HNo.out e, Bool.false_and]
        go_wp2
        go_ret
        exact ⟨ret_bool HE.out.symm, K.out⟩
      go_wp2_with fail
      refine (HT.out _).mono ?_
      rintro e w5 ⟨rfl, hw⟩
      subst hw
      cases k1
      · have HE : Hid (R = false) := by
          have e : kx = false := by rw [HOK.out]; simp
          rw [Hid, HM.out, HNo.out e, Bool.false_and]
        go_wp2
        go_ret
        exact ⟨ret_bool HE.out.symm, K.out⟩
      go_wp2_with fail
      refine (HU.out _).mono ?_
      rintro e w5 ⟨rfl, hw⟩
      subst hw
      cases k2
      · have HE : Hid (R = false) := by
          have e : kx = false := by rw [HOK.out]; simp
          rw [Hid, HM.out, HNo.out e, Bool.false_and]
        go_wp2
        go_ret
        exact ⟨ret_bool HE.out.symm, K.out⟩
      have HG2 : Hid ((m.qs.take (j + 1)).all qnOk = true) := by
        have e : kx = true := by rw [HOK.out]; rfl
        rw [Hid, HS.out, HG.out, e]
        rfl
      clear HNo HS HG x0 x1 x2
      go_wp2_with fail
      go_roundw
      case rel => exact ⟨j + 1, by omega, by go_num, HG2.out, B.out, K.out⟩
      case measure => simp [intOf]; omega
    · obtain rfl : j = m.qs.length := by omega
      rw [List.take_length] at HG
      have HM2 : Hid (R = (XI && XJ && XL && XA && XN && XR)) := by rw [Hid, HM.out, HG.out, Bool.true_and]
      clear HM HG
      go_wp2_with fail
      refine (HI.out _).mono ?_
      rintro e w5 ⟨rfl, hw⟩
      subst hw
      cases XI
      · have HE : Hid (R = false) := by rw [Hid, HM2.out]; simp
        go_wp2
        go_ret
        exact ⟨ret_bool HE.out.symm, K.out⟩
      go_wp2_with fail
      refine (HJ.out _).mono ?_
      rintro e w5 ⟨rfl, hw⟩
      subst hw
      cases XJ
      · have HE : Hid (R = false) := by rw [Hid, HM2.out]; simp
        go_wp2
        go_ret
        exact ⟨ret_bool HE.out.symm, K.out⟩
      go_wp2_with fail
      refine (HL.out _).mono ?_
      rintro e w5 ⟨rfl, hw⟩
      subst hw
      cases XL
      · have HE : Hid (R = false) := by rw [Hid, HM2.out]; simp
        go_wp2
        go_ret
        exact ⟨ret_bool HE.out.symm, K.out⟩
      clear b0 b1 b2 b3 b4 b5
      have b0 := B.out.cell 0
      have b1 := B.out.cell 1
      have b2 := B.out.cell 2
      have b3 := B.out.cell 3
      have b4 := B.out.cell 4
      have b5 := B.out.cell 5
      simp only [List.getElem?_toArray, List.getElem?_cons_zero, List.getElem?_cons_succ] at b0 b1 b2 b3 b4 b5
      go_wp2_with fail
      refine (HA.out _ K.out).mono ?_
      rintro e w5 ⟨rfl, k5⟩
      replace B := hide (B.out.keeps k5)
      replace K := hide (K.out.trans k5)
      clear b0 b1 b2 b3 b4 b5
      clear k5
      have b0 := B.out.cell 0
      have b1 := B.out.cell 1
      have b2 := B.out.cell 2
      have b3 := B.out.cell 3
      have b4 := B.out.cell 4
      have b5 := B.out.cell 5
      simp only [List.getElem?_toArray, List.getElem?_cons_zero, List.getElem?_cons_succ] at b0 b1 b2 b3 b4 b5
      cases XA
      · have HE : Hid (R = false) := by rw [Hid, HM2.out]; simp
        go_wp2
        go_ret
        exact ⟨ret_bool HE.out.symm, K.out⟩
      go_wp2_with fail
      refine (HN.out _ K.out).mono ?_
      rintro e w5 ⟨rfl, k5⟩
      replace B := hide (B.out.keeps k5)
      replace K := hide (K.out.trans k5)
      clear b0 b1 b2 b3 b4 b5
      clear k5
      have b0 := B.out.cell 0
      have b1 := B.out.cell 1
      have b2 := B.out.cell 2
      have b3 := B.out.cell 3
      have b4 := B.out.cell 4
      have b5 := B.out.cell 5
      simp only [List.getElem?_toArray, List.getElem?_cons_zero, List.getElem?_cons_succ] at b0 b1 b2 b3 b4 b5
      cases XN
      · have HE : Hid (R = false) := by rw [Hid, HM2.out]; simp
        go_wp2
        go_ret
        exact ⟨ret_bool HE.out.symm, K.out⟩
      go_wp2_with fail
      refine (HR.out _ K.out).mono ?_
      rintro e w5 ⟨rfl, k5⟩
      replace B := hide (B.out.keeps k5)
      replace K := hide (K.out.trans k5)
      clear b0 b1 b2 b3 b4 b5
      clear k5
      have HE : Hid (R = XR) := by rw [Hid, HM2.out]; simp
      go_wp2
      go_ret
      exact ⟨ret_bool HE.out.symm, K.out⟩
end Go.Proofs.Ytcohceggooockaa
