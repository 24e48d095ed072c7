/- What the document's Same of layer 8 answers. No condition. -/
import Derived.Test.YtcohceggooockaaMsgWA
namespace Go.Proofs.Ytcohceggooockaa
open Go.RowKit

set_option maxHeartbeats 8000000 in
set_option maxRecDepth 100000 in
theorem refSame8_any (v u : Value) (m k : Ms) (w : World) (hm : MsAt w v m) (hk : MsAt w u k) (lm : MsLens m) (lk : MsLens k) :
    Calls Try.prog 14 #[v, u] w fun e w' => e = .returned (.bool (decide (m = k))) ∧ Keeps w w' := by
  obtain ⟨vq, va, vn, vr, rfl, rq, ra, rn, rr⟩ := hm
  obtain ⟨uq, ua, un, ur, rfl, sq, sa, sn, sr⟩ := hk
  obtain ⟨aq, kq, h1⟩ := rq.len
  obtain ⟨bq, lq, h2⟩ := sq.len
  rw [List.length_map] at h1 h2
  subst h1 h2
  have l1 := lm.1
  have l2 := lk.1
  unfold maxLen at l1 l2
  have HM := hide (ms_eq m k)
  have HA := hide (fun W (h : Keeps w W) => refsame6_any va ua m.an k.an W (ra.keeps h) (sa.keeps h) lm.2.1 lk.2.1)
  have HN := hide (fun W (h : Keeps w W) => refsame6_any vn un m.ns k.ns W (rn.keeps h) (sn.keeps h) lm.2.2.1 lk.2.2.1)
  have HR := hide (fun W (h : Keeps w W) => refsame6_any vr ur m.ar k.ar W (rr.keeps h) (sr.keeps h) lm.2.2.2 lk.2.2.2)
  clear ra rn rr sa sn sr
  have B1 := (Blk.made w #[.int .i64 m.id, .int .i64 m.bits, .slice aq m.qs.length kq, va, vn, vr] 26).alloc (.cells #[.int .i64 k.id, .int .i64 k.bits, .slice bq k.qs.length lq, ua, un, ur] 26)
  have B2 := Blk.made (w.alloc (.cells #[.int .i64 m.id, .int .i64 m.bits, .slice aq m.qs.length kq, va, vn, vr] 26)) #[.int .i64 k.id, .int .i64 k.bits, .slice bq k.qs.length lq, ua, un, ur] 26
  rw [show (w.alloc (.cells #[.int .i64 m.id, .int .i64 m.bits, .slice aq m.qs.length kq, va, vn, vr] 26)).heap.size = w.heap.size + 1 by simp] at B2
  have K := ((Keeps.refl w).alloc (.cells #[.int .i64 m.id, .int .i64 m.bits, .slice aq m.qs.length kq, va, vn, vr] 26)).alloc (.cells #[.int .i64 k.id, .int .i64 k.bits, .slice bq k.qs.length lq, ua, un, ur] 26)
  replace B1 := hide B1
  replace B2 := hide B2
  replace K := hide K
  generalize decide (m = k) = R at *
  generalize m.id = I at *
  generalize m.bits = J at *
  generalize k.id = I2 at *
  generalize k.bits = J2 at *
  generalize decide (m.an = k.an) = XA at *
  generalize decide (m.ns = k.ns) = XN at *
  generalize decide (m.ar = k.ar) = XR at *
  generalize m.qs = l at *
  generalize k.qs = p at *
  by_cases hI : I = I2
  · subst hI
    by_cases hJ : J = J2
    · subst hJ
      rw [decide_eq_true rfl, decide_eq_true rfl] at HM
      by_cases hlen : l.length = p.length
      · have hne : ((l.length : Int) != (p.length : Int)) = false := by rw [hlen]; simp
        have HL := hide hlen
        have hle1 : l.length ≤ p.length := by omega
        have hle2 : p.length ≤ l.length := by omega
        clear hlen
        go_enter Try.func14, Try.ntmps14
        go_wp2_with fail
        generalize (w.alloc (.cells #[.int .i64 I, .int .i64 J, .slice aq l.length kq, va, vn, vr] 26)).alloc (.cells #[.int .i64 I, .int .i64 J, .slice bq p.length lq, ua, un, ur] 26) = W at *
        generalize w.heap.size = M at *
        go_loopw [5] (fun i wr => ∃ j : Nat, j ≤ l.length ∧ i = .int .i64 j ∧ Hid (l.take j = p.take j) ∧ Blk wr M #[.int .i64 I, .int .i64 J, .slice aq l.length kq, va, vn, vr] 26 ∧ Blk wr (M + 1) #[.int .i64 I, .int .i64 J, .slice bq p.length lq, ua, un, ur] 26 ∧ Keeps w wr) (fun i _ => l.length - (intOf i).toNat)
        case atStart => exact ⟨0, by omega, rfl, by simp [Hid], B1.out, B2.out, K.out⟩
        case round =>
          clear B1 B2 K
          obtain ⟨j, hj, rfl, HT, B1, B2, K⟩ := hrel
          have y2 := B1.cell 2
          have z2 := B2.cell 2
          change wr.cell? _ = some _ at y2 z2
          by_cases hlt : j < l.length
          · have hv2 := rq.keeps K
            have hu2 := sq.keeps K
            have hlt2 : j < p.length := by omega
            have i2 : (j : Int) < (l.length : Int) := by omega
            have i3 : (j : Int) < (p.length : Int) := by omega
            have i0 : (0 : Int) ≤ (j : Int) := by omega
            obtain ⟨b, off, rfl, _, _⟩ := hv2.parts (by rw [List.length_map]; omega)
            obtain ⟨b2, off2, rfl, _, _⟩ := hu2.parts (by rw [List.length_map]; omega)
            obtain ⟨c0, c1, c2⟩ := row3 hv2 hlt
            obtain ⟨e0, e1, e2⟩ := row3 hu2 hlt2
            have HS := hide (fun e => take8_step hlt hlt2 HT.out e)
            have HX := hide (fun e => ne_at hlt hlt2 e)
            have rn := neq_qn l[j] p[j]
            generalize hoo : off + j * 3 = o at *
            generalize hoo2 : off2 + j * 3 = o2 at *
            generalize l[j] = x at *
            generalize p[j] = y at *
            clear hv2 hu2
            replace B1 := hide B1.drew
            replace B2 := hide B2.drew
            by_cases he : x = y
            · have HE := hide (HS.out he)
              rw [decide_eq_true he] at rn
              clear he HS HX HT
              go_wp2_with fail
              go_region
              go_wp2
              go_roundw
              case rel => exact ⟨j + 1, by omega, by go_num, HE, B1.out, B2.out, K.drew⟩
              case measure => simp [intOf]; omega
            · have HE := hide (HX.out he)
              rw [decide_eq_false he] at rn
              clear he HS HX HT
              go_wp2_with fail
              go_region
              go_wp2
              go_ret
              exact ⟨ret_bool (by rw [HM.out, decide_eq_false HE.out]; simp), K.drew⟩
          · obtain rfl : j = l.length := by omega
            have HE : l = p := by
              have := HT.out
              rw [List.take_length, HL.out, List.take_length] at this
              exact this
            rw [decide_eq_true HE] at HM
            clear HT HE rq sq
            have T := B1.six6
            have U := B2.six6
            obtain ⟨a0, a1, a2, a3, a4, a5, a6⟩ := T
            obtain ⟨d0, d1, d2, d3, d4, d5, d6⟩ := U
            clear y2 z2
            go_wp2_with fail
            refine (HA.out _ K).mono ?_
            rintro e w1 ⟨rfl, k1⟩
            replace B1 := B1.keeps k1
            replace B2 := B2.keeps k1
            replace K := K.trans k1
            clear a0 a1 a2 a3 a4 a5 a6 d0 d1 d2 d3 d4 d5 d6 k1
            cases XA
            · go_wp2
              go_ret
              exact ⟨ret_bool (by rw [HM.out]; simp), K⟩
            obtain ⟨a0, a1, a2, a3, a4, a5, a6⟩ := B1.six6
            obtain ⟨d0, d1, d2, d3, d4, d5, d6⟩ := B2.six6
            go_wp2_with fail
            refine (HN.out _ K).mono ?_
            rintro e w2 ⟨rfl, k1⟩
            replace B1 := B1.keeps k1
            replace B2 := B2.keeps k1
            replace K := K.trans k1
            clear a0 a1 a2 a3 a4 a5 a6 d0 d1 d2 d3 d4 d5 d6 k1
            cases XN
            · go_wp2
              go_ret
              exact ⟨ret_bool (by rw [HM.out]; simp), K⟩
            obtain ⟨a0, a1, a2, a3, a4, a5, a6⟩ := B1.six6
            obtain ⟨d0, d1, d2, d3, d4, d5, d6⟩ := B2.six6
            go_wp2_with fail
            refine (HR.out _ K).mono ?_
            rintro e w3 ⟨rfl, k1⟩
            replace K := K.trans k1
            clear a0 a1 a2 a3 a4 a5 a6 d0 d1 d2 d3 d4 d5 d6 k1 B1 B2
            go_wp2
            go_ret
            exact ⟨ret_bool (by rw [HM.out]; simp), K⟩
      · have hne : ((l.length : Int) != (p.length : Int)) = true := by rw [bne_iff_ne]; omega
        have HE : ¬ l = p := fun h => hlen (by rw [h])
        rw [decide_eq_false HE] at HM
        clear HE
        go_enter Try.func14, Try.ntmps14
        go_wp2
        go_ret
        exact ⟨ret_bool (by rw [HM.out]; simp), K.out⟩
    · rw [decide_eq_false hJ] at HM
      have hne2 : (J != J2) = true := by rw [bne_iff_ne]; exact hJ
      go_enter Try.func14, Try.ntmps14
      go_wp2
      go_ret
      exact ⟨ret_bool (by rw [HM.out]; simp), K.out⟩
  · rw [decide_eq_false hI] at HM
    have hne : (I != I2) = true := by rw [bne_iff_ne]; exact hI
    go_enter Try.func14, Try.ntmps14
    go_wp2
    go_ret
    exact ⟨ret_bool (by rw [HM.out]; rfl), K.out⟩
end Go.Proofs.Ytcohceggooockaa
