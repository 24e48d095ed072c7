/- The document's Check of sets, in parts. No condition. -/
import Derived.Test.YtgfaoaabnjblhaaGrpR1
import Derived.Test.YtgfaoaabnjblhaaGrp9
namespace Go.Proofs.Ytgfaoaabnjblhaa
open Go.RowKit

def okD (t : Int) (d : List UInt8) : Bool := Dt.checkB t d && (Dt.lowD t d == d)
theorem stOk_doc (s : St) : stOk s = (s.ds.all (okD s.key.t) && decide s.ds.Nodup && (askedM s.key && decide (0 ≤ s.ttl) && decide (s.ttl < 2147483648) && decide (0 < s.ds.length))) := by
  rw [Bool.eq_iff_iff, stOk_parts]
  simp only [Bool.and_eq_true, decide_eq_true_eq, List.all_eq_true, askedM, okD, beq_iff_eq]
  constructor
  · rintro ⟨h1, h2, h3, h4⟩
    obtain ⟨d, hd⟩ := List.exists_mem_of_ne_nil _ h1
    have hk := h3 d hd
    rw [dataOk, Bool.and_eq_true] at hk
    obtain ⟨p1, p2, p3, p4, p5⟩ := recOk_parts.1 hk.1
    refine ⟨⟨fun x hx => ?_, h4⟩, ⟨⟨⟨⟨⟨p1, h2⟩, p2⟩, p3⟩, p4.1⟩, ?_⟩, List.length_pos_iff.2 h1⟩
    · have hk := h3 x hx
      rw [dataOk, Bool.and_eq_true, beq_iff_eq] at hk
      have hc : Dt.checkB s.key.t (bl ⟨x.toArray⟩) = true := (recOk_parts.1 hk.1).2.2.2.2
      rw [bl_of] at hc
      exact ⟨hc, hk.2⟩
    · have h5 : s.ttl ≤ 2147483647 := p4.2
      omega
  · rintro ⟨⟨h1, h2⟩, ⟨⟨⟨⟨⟨p1, p2⟩, p3⟩, p4⟩, p5⟩, p6⟩, p7⟩
    refine ⟨List.length_pos_iff.1 p7, p2, fun d hd => ?_, h2⟩
    obtain ⟨c1, c2⟩ := h1 d hd
    rw [dataOk, Bool.and_eq_true, beq_iff_eq]
    refine ⟨recOk_parts.2 ⟨p1, p3, p4, ⟨p5, ?_⟩, ?_⟩, c2⟩
    · show s.ttl ≤ 2147483647
      omega
    · show Dt.checkB s.key.t (bl ⟨d.toArray⟩) = true
      rw [bl_of]
      exact c1
theorem front_reads {w : World} {b off n cap : Nat} {ls : List (List UInt8)} (h : ReadS w (.slice (some ⟨b, off, none⟩) n cap) ls) (j : Nat) (hj : j ≤ ls.length) : ReadS w (.slice (some ⟨b, off, none⟩) j cap) (ls.take j) := by
  obtain ⟨a', cap', he, hle, hp⟩ := h
  simp only [Value.slice.injEq] at he
  obtain ⟨rfl, rfl, rfl⟩ := he
  have hl : (ls.take j).length = j := by rw [List.length_take]; omega
  refine ⟨some ⟨b, off, none⟩, cap, by rw [hl], by omega, fun i hi => ?_⟩
  have hi' : i < ls.length := by omega
  obtain ⟨x, hx, hc⟩ := hp i hi'
  exact ⟨x, hx, by rw [hc, List.getElem_take]⟩

def RChk (w : World) (s : St) (G : Nat) (a : Option Addr) (cap : Nat) (i : Value) (wr : World) : Prop :=
  ∃ j : Nat, j ≤ s.ds.length ∧ i = .int .i64 j ∧ Hid ((s.ds.take j).all (okD s.key.t) = true) ∧ Hid ((s.ds.take j).Nodup) ∧ Blk wr G #[.string s.key.n, .int .i64 s.key.t, .int .i64 s.key.c, .slice a s.ds.length cap, .int .i64 s.ttl] 35 ∧ Keeps w wr

set_option maxHeartbeats 8000000 in
set_option maxRecDepth 100000 in
theorem refGCheck_any (v : Value) (s : St) (w : World) (hv : StAt w v s) (hf : StFine s) :
    Calls Try.prog 33 #[v] w fun e w' => e = .returned (.bool (stOk s)) ∧ Keeps w w' := by
  obtain ⟨vd, rfl, hd⟩ := hv
  obtain ⟨f1, f2, f3⟩ := hf
  have f2' := f2
  unfold maxLen at f2'
  obtain ⟨a, cap, hvd⟩ := hd.len
  subst hvd
  have HO := hide (stOk_doc s)
  have HA := hide (fun W => refAsked_any s.key W f1)
  have B := hide (Blk.made w #[.string s.key.n, .int .i64 s.key.t, .int .i64 s.key.c, .slice a s.ds.length cap, .int .i64 s.ttl] 35)
  have K := hide ((Keeps.refl w).alloc (.cells #[.string s.key.n, .int .i64 s.key.t, .int .i64 s.key.c, .slice a s.ds.length cap, .int .i64 s.ttl] 35))
  generalize stOk s = R at *
  go_enter Try.func33, Try.ntmps33
  go_upto_region 1 with fail
  generalize w.alloc (.cells #[.string s.key.n, .int .i64 s.key.t, .int .i64 s.key.c, .slice a s.ds.length cap, .int .i64 s.ttl] 35) = W at *
  generalize w.heap.size = G at *
  have HD := hide hd
  have HF := hide f3
  clear hd f3
  obtain ⟨b0, b1, b2, b3, b4, _⟩ := B.out.five_cells
  go_wp2_with fail
  clear b0 b1 b2 b3 b4
  go_loopw [3] (fun i wr => RChk w s G a cap i wr) (fun i _ => s.ds.length - (intOf i).toNat)
  case atStart => exact ⟨0, by omega, rfl, by simp [Hid], by simp [Hid], B.out, K.out⟩
  case round =>
    clear B K
    obtain ⟨j, hj, rfl, HG, HN, B, K⟩ := hrel
    replace B := hide B
    replace K := hide K
    obtain ⟨b0, b1, b2, b3, b4, _⟩ := B.out.five_cells
    by_cases hlt : j < s.ds.length
    · have i2 : (j : Int) < (s.ds.length : Int) := by omega
      have i0 : (0 : Int) ≤ (j : Int) := by omega
      obtain ⟨b, off, cap', he, hb0, hcell, hcap⟩ := (HD.out.keeps K.out).parts (by omega)
      simp only [Value.slice.injEq, true_and] at he
      obtain ⟨rfl, rfl⟩ := he
      have i3 : (j : Int) ≤ (cap : Int) := by omega
      have hc := hcell j hlt
      have hsz := HF.out _ (List.getElem_mem hlt)
      have HS1 := hide (all_upto (okD s.key.t) s.ds j hlt HG.out)
      have HS2 := hide (all_not (okD s.key.t) s.ds j hlt)
      have HS3 := hide (nodup_upto s.ds j hlt HN.out)
      have HS4 := hide (nodup_not s.ds j hlt)
      have HFR := hide (front_reads (HD.out.keeps K.out) j hj)
      clear hcell HG HN
      generalize hoo : off + j = o at hc
      generalize s.ds[j] = d at *
      unfold sv at hc
      have hszb : (⟨d.toArray⟩ : ByteArray).size ≤ maxLen := by show d.toArray.size ≤ maxLen; simpa using hsz
      have HOK := hide (show okD s.key.t d = (Dt.checkB s.key.t d && (Dt.lowD s.key.t d == d)) from rfl)
      have H1 := fun W => refcheck5_any s.key.t ⟨d.toArray⟩ W hszb
      have H2 := fun W => reflow5_any s.key.t ⟨d.toArray⟩ W hszb
      have H3 := fun W (k : Keeps wr W) => In_any _ (s.ds.take j) ⟨d.toArray⟩ W (HFR.out.keeps k) (by rw [List.length_take]; unfold maxLen; omega)
      rw [bl_of] at H1 H2 H3
      replace H1 := hide H1
      replace H2 := hide H2
      replace H3 := hide H3
      have HDL := hide (str_neq (Dt.lowD s.key.t d) d)
      have HBE : Hid ((Dt.lowD s.key.t d == d) = decide (Dt.lowD s.key.t d = d)) := by rw [Hid]; by_cases h : Dt.lowD s.key.t d = d <;> simp [h]
      rw [HBE.out] at HOK
      generalize Dt.checkB s.key.t d = ck at *
      generalize Dt.lowD s.key.t d = lw at *
      go_wp2_with fail
      refine (H1.out _).mono ?_
      rintro e w2 ⟨rfl, k1⟩
      have KJ := hide k1
      replace B := hide (B.out.keeps k1)
      replace K := hide (K.out.trans k1)
      clear k1 H1 b0 b1 b2 b3 b4
      cases ck
      · have HE : Hid (R = false) := by rw [Hid, HO.out, HS2.out (by rw [HOK.out]; rfl)]; simp
        go_wp2
        go_ret
        exact ⟨ret_bool HE.out.symm, K.out⟩
      obtain ⟨b0, b1, b2, b3, b4, _⟩ := B.out.five_cells
      go_wp2_with fail
      refine (H2.out _).mono ?_
      rintro e w3 ⟨rfl, k1⟩
      replace KJ := hide (KJ.out.trans k1)
      replace B := hide (B.out.keeps k1)
      replace K := hide (K.out.trans k1)
      clear k1 H2 b0 b1 b2 b3 b4
      obtain ⟨b0, b1, b2, b3, b4, _⟩ := B.out.five_cells
      by_cases hlw : lw = d
      · have hdl : (!(⟨lw.toArray⟩ : ByteArray).toList == (⟨d.toArray⟩ : ByteArray).toList) = false := by rw [HDL.out, decide_eq_true hlw]; rfl
        rw [decide_eq_true hlw] at HOK
        replace hlw := hide hlw
        clear HDL HBE
        by_cases hin : d ∈ s.ds.take j
        · rw [decide_eq_true hin] at H3
          have HE : Hid (R = false) := by rw [Hid, HO.out, decide_eq_false (HS4.out hin)]; simp
          replace hin := hide hin
          go_wp2_with fail
          refine (H3.out _ KJ.out).mono ?_
          rintro e w4 ⟨rfl, k1⟩
          replace K := hide (K.out.trans k1)
          go_wp2
          go_ret
          exact ⟨ret_bool HE.out.symm, K.out⟩
        · rw [decide_eq_false hin] at H3
          have HN2 := hide (HS3.out hin)
          have HG2 := hide (HS1.out (by rw [HOK.out]; rfl))
          replace hin := hide hin
          go_wp2_with fail
          refine (H3.out _ KJ.out).mono ?_
          rintro e w4 ⟨rfl, k1⟩
          replace B := hide (B.out.keeps k1)
          replace K := hide (K.out.trans k1)
          clear k1 b0 b1 b2 b3 b4
          go_wp2_with fail
          go_roundw
          case rel => exact ⟨j + 1, by omega, by go_num, HG2, HN2, B.out, K.out⟩
          case measure => simp [intOf]; omega
      · have hdl : (!(⟨lw.toArray⟩ : ByteArray).toList == (⟨d.toArray⟩ : ByteArray).toList) = true := by rw [HDL.out, decide_eq_false hlw]; rfl
        rw [decide_eq_false hlw] at HOK
        have HE : Hid (R = false) := by rw [Hid, HO.out, HS2.out (by rw [HOK.out]; simp)]; simp
        clear HDL HBE
        replace hlw := hide hlw
        go_wp2
        go_ret
        exact ⟨ret_bool HE.out.symm, K.out⟩
    · obtain rfl : j = s.ds.length := by omega
      rw [List.take_length] at HG HN
      have HO2 : Hid (R = (askedM s.key && decide (0 ≤ s.ttl) && decide (s.ttl < 2147483648) && decide (0 < s.ds.length))) := by rw [Hid, HO.out, HG.out, decide_eq_true HN.out]; simp
      generalize askedM s.key = A at *
      go_wp2_with fail
      refine (HA.out _).mono ?_
      rintro e w2 ⟨rfl, k1⟩
      replace B := hide (B.out.keeps k1)
      replace K := hide (K.out.trans k1)
      clear k1 b0 b1 b2 b3 b4 HG HN HA
      obtain ⟨b0, b1, b2, b3, b4, _⟩ := B.out.five_cells
      cases A
      · have HE : Hid (R = false) := by rw [Hid, HO2.out]; simp
        go_wp2
        go_ret
        exact ⟨ret_bool HE.out.symm, K.out⟩
      by_cases h1 : s.ttl < 0
      · have HE : Hid (R = false) := by rw [Hid, HO2.out, decide_eq_false (show ¬ 0 ≤ s.ttl by omega)]; simp
        go_wp2
        go_ret
        exact ⟨ret_bool HE.out.symm, K.out⟩
      by_cases h2 : 2147483648 ≤ s.ttl
      · have HE : Hid (R = false) := by rw [Hid, HO2.out, decide_eq_false (show ¬ s.ttl < 2147483648 by omega)]; simp
        go_wp2
        go_ret
        exact ⟨ret_bool HE.out.symm, K.out⟩
      by_cases h3 : 0 < s.ds.length
      · have HE : Hid (R = true) := by rw [Hid, HO2.out, decide_eq_true (show 0 ≤ s.ttl by omega), decide_eq_true (show s.ttl < 2147483648 by omega), decide_eq_true h3]; rfl
        have h4 : decide ((0 : Int) < (s.ds.length : Int)) = true := decide_eq_true (by omega)
        have h5 : ¬ s.ds = [] := List.length_pos_iff.1 h3
        go_wp2
        go_ret
        exact ⟨ret_bool HE.out.symm, K.out⟩
      · have HE : Hid (R = false) := by rw [Hid, HO2.out, decide_eq_false h3]; simp
        have h5 : s.ds = [] := List.length_eq_zero_iff.1 (by omega)
        go_wp2
        go_ret
        exact ⟨ret_bool HE.out.symm, K.out⟩
end Go.Proofs.Ytgfaoaabnjblhaa
