/- What the document's Decode, Encode, TTL of layer 6 answer. -/
import Derived.Test.YthoominldliphaaRecWalk2
import Derived.Test.YthoominldliphaaRecWalk3
namespace Go.Proofs.Ythoominldliphaa
open Go.RowKit

theorem decB_in2 {m n : ByteArray} {i : Nat} (h : i + 10 ≤ m.size) (E : Dt.ER) (hE : E = Dt.expL (bl m) ((i : Int) + 10) (Oct.getN m ((i : Int) + 8) 2) (Oct.getN m i 2)) :
    (E.e = 0 → decB m n i = ⟨⟨n, Oct.getN m i 2, Oct.getN m ((i : Int) + 2) 2, ttlOf (Oct.getN m ((i : Int) + 4) 4), erS E⟩, i + 10 + (Oct.getN m ((i : Int) + 8) 2).toNat, 0⟩) ∧ (E.e ≠ 0 → decB m n i = badD E.e) := by
  have q4 : ((i : Int) + 4) = (i : Int) + 2 + 2 := by omega
  have q8 : ((i : Int) + 8) = (i : Int) + 2 + 2 + 4 := by omega
  have q10 : ((i : Int) + 10) = (i : Int) + 2 + 2 + 4 + 2 := by omega
  rw [q10, q8] at hE
  rw [q8, q4]
  exact decB_in h E hE

set_option maxHeartbeats 4000000 in
set_option maxRecDepth 100000 in
theorem refdecode_any (m : ByteArray) (p : Int) (w : World) (hm2 : m.size ≤ 1000000) (hp : p ≤ 9223372036854775807) :
    Calls Try.prog 10 #[.string m, .int .i64 p] w fun e w' => e = .returned (decV (decR m p)) ∧ Keeps w w' := by
  have hm : m.size ≤ maxLen := by unfold maxLen; omega
  have HR := hide (fun W => refread_any m p W hm hp)
  have O0 := Out5.made w 24
  have K := (Keeps.refl w).alloc (.cells #[.string ⟨#[]⟩, .int .i64 0, .int .i64 0, .int .i64 0, .string ⟨#[]⟩] 24)
  by_cases he : (Cm.readL (bl m) p).e = 0
  · have HD : Hid (decR m p = decB m (rrS (Cm.readL (bl m) p)) (Cm.readL (bl m) p).next) := if_pos he
    obtain ⟨z1, z2⟩ := rrS_size (l := bl m) (p := p) rfl
    rw [bl_length] at z2
    rw [he] at HR
    generalize decR m p = D at *
    generalize rrS (Cm.readL (bl m) p) = N at *
    generalize (Cm.readL (bl m) p).next = i at *
    clear he
    go_enter Try.func10, Try.ntmps10
    go_wp2_with fail
    refine (HR.out _).mono ?_
    rintro e wk ⟨rfl, hw⟩
    subst hw
    generalize w.alloc (.cells #[.string ⟨#[]⟩, .int .i64 0, .int .i64 0, .int .i64 0, .string ⟨#[]⟩] 24) = W at *
    generalize hGG : w.heap.size = G at *
    have hle : w.heap.size ≤ G := Nat.le_of_eq hGG
    clear hGG HR
    go_wp2_with fail
    refine (reftake_any _ _ _ _ hm (by omega)).mono ?_
    rintro e w1 ⟨rfl, hw⟩
    subst hw
    have hs := get_small m ((i : Int) + 8)
    by_cases hin : i + 10 ≤ m.size
    · have ho : Oct.takeOk m i 10 = true := by rw [Oct.takeOk_spec]; omega
      rw [ho]
      generalize Oct.takeS m i 10 = Z at *
      obtain ⟨D1, D2⟩ := decB_in2 (n := N) hin _ rfl
      rw [← HD.out] at D1 D2
      have HE := hide (fun W => refexp_any m (i + 10) (Oct.getN m ((i : Int) + 8) 2) (Oct.getN m i 2) W hm2 (fun _ => hs.2) (by omega))
      have G1 := hide (fun W => refget_any m i 2 W hm (by omega))
      have G2 := hide (fun W => refget_any m (i + 2) 2 W hm (by omega))
      have G3 := hide (fun W => refget_any m (i + 4) 4 W hm (by omega))
      have G4 := hide (fun W => refget_any m (i + 8) 2 W hm (by omega))
      generalize Dt.expL (bl m) ((i : Int) + 10) (Oct.getN m ((i : Int) + 8) 2) (Oct.getN m i 2) = E at *
      generalize Oct.getN m ((i : Int) + 8) 2 = A4 at *
      generalize Oct.getN m ((i : Int) + 4) 4 = A3 at *
      generalize Oct.getN m ((i : Int) + 2) 2 = A2 at *
      generalize Oct.getN m i 2 = A1 at *
      generalize Oct.getOk m ((i : Int) + 8) 2 = B4 at *
      generalize Oct.getOk m ((i : Int) + 4) 4 = B3 at *
      generalize Oct.getOk m ((i : Int) + 2) 2 = B2 at *
      generalize Oct.getOk m i 2 = B1 at *
      have HD1 := hide D1
      have HD2 := hide D2
      clear D1 D2 HD
      go_wp2_with fail
      refine (G1.out _).mono ?_
      rintro e w1 ⟨rfl, hw⟩
      subst hw
      go_wp2_with fail
      refine (G2.out _).mono ?_
      rintro e w1 ⟨rfl, hw⟩
      subst hw
      go_wp2_with fail
      refine (G3.out _).mono ?_
      rintro e w1 ⟨rfl, hw⟩
      subst hw
      go_wp2_with fail
      refine (G4.out _).mono ?_
      rintro e w1 ⟨rfl, hw⟩
      subst hw
      clear G1 G2 G3 G4
      obtain ⟨T, HT, hT⟩ : ∃ T, Hid (ttlOf A3 = T) ∧ ((2147483648 ≤ A3 ∧ T = 0) ∨ (¬ 2147483648 ≤ A3 ∧ T = A3)) := by
        by_cases h : 2147483648 ≤ A3
        · exact ⟨0, if_pos (by omega), .inl ⟨h, rfl⟩⟩
        · exact ⟨A3, if_neg (by omega), .inr ⟨h, rfl⟩⟩
      rw [HT.out] at HD1
      rcases hT with ⟨ht, rfl⟩ | ⟨ht, rfl⟩
      · go_wp2_with fail
        refine (HE.out _).mono ?_
        rintro e w5 ⟨rfl, k5⟩
        obtain ⟨⟨c0, c1, c2, c3, c4⟩, ⟨f0, f1, f2, f3, f4⟩, hg⟩ := O0.below k5 O0.2.2
        have K5 := K.trans k5
        clear K O0 k5 HE
        by_cases he : E.e = 0
        · have HD := hide (HD1.out he)
          rw [he]
          clear HD1 HD2 he
          generalize erS E = X at *
          go_wp2
          refine bodyPost_ret (v := .tuple #[.agg #[.string N, .int .i64 A1, .int .i64 A2, .int .i64 0, .string X], .int .i64 ((i : Int) + 10 + A4), .int .i64 0]) (by simp [results, Try.results10, go_sem, c0, c1, c2, c3, c4]) rfl ⟨?_, ((((K5.setCell (p := ⟨G, 0, none⟩) hle _).setCell (p := ⟨G, 1, none⟩) hle _).setCell (p := ⟨G, 2, none⟩) hle _).setCell (p := ⟨G, 3, none⟩) hle _).setCell (p := ⟨G, 4, none⟩) hle _⟩
          have hnx : (i : Int) + 10 + A4 = ((i + 10 + A4.toNat : Nat) : Int) := by omega
          rw [HD.out, hnx]
          rfl
        · have HD := hide (HD2.out he)
          have hne : ((E.e : Int) != 0) = true := by rw [bne_iff_ne]; omega
          clear HD1 HD2 he
          go_wp2
          exact bodyPost_ret (v := decV (badD E.e)) (by simp [results, Try.results10, go_sem, decV, badD, noRec, recV, c0, c1, c2, c3, c4]) rfl ⟨by rw [HD.out], ((((K5.setCell (p := ⟨G, 0, none⟩) hle _).setCell (p := ⟨G, 1, none⟩) hle _).setCell (p := ⟨G, 2, none⟩) hle _).setCell (p := ⟨G, 3, none⟩) hle _).setCell (p := ⟨G, 4, none⟩) hle _⟩
      · go_wp2_with fail
        refine (HE.out _).mono ?_
        rintro e w5 ⟨rfl, k5⟩
        obtain ⟨⟨c0, c1, c2, c3, c4⟩, ⟨f0, f1, f2, f3, f4⟩, hg⟩ := O0.below k5 O0.2.2
        have K5 := K.trans k5
        clear K O0 k5 HE
        by_cases he : E.e = 0
        · have HD := hide (HD1.out he)
          rw [he]
          clear HD1 HD2 he
          generalize erS E = X at *
          go_wp2
          refine bodyPost_ret (v := .tuple #[.agg #[.string N, .int .i64 A1, .int .i64 A2, .int .i64 T, .string X], .int .i64 ((i : Int) + 10 + A4), .int .i64 0]) (by simp [results, Try.results10, go_sem, c0, c1, c2, c3, c4]) rfl ⟨?_, ((((K5.setCell (p := ⟨G, 0, none⟩) hle _).setCell (p := ⟨G, 1, none⟩) hle _).setCell (p := ⟨G, 2, none⟩) hle _).setCell (p := ⟨G, 3, none⟩) hle _).setCell (p := ⟨G, 4, none⟩) hle _⟩
          have hnx : (i : Int) + 10 + A4 = ((i + 10 + A4.toNat : Nat) : Int) := by omega
          rw [HD.out, hnx]
          rfl
        · have HD := hide (HD2.out he)
          have hne : ((E.e : Int) != 0) = true := by rw [bne_iff_ne]; omega
          clear HD1 HD2 he
          go_wp2
          exact bodyPost_ret (v := decV (badD E.e)) (by simp [results, Try.results10, go_sem, decV, badD, noRec, recV, c0, c1, c2, c3, c4]) rfl ⟨by rw [HD.out], ((((K5.setCell (p := ⟨G, 0, none⟩) hle _).setCell (p := ⟨G, 1, none⟩) hle _).setCell (p := ⟨G, 2, none⟩) hle _).setCell (p := ⟨G, 3, none⟩) hle _).setCell (p := ⟨G, 4, none⟩) hle _⟩
    · have ho : Oct.takeOk m i 10 = false := by
        rw [Bool.eq_false_iff]
        intro h
        rw [Oct.takeOk_spec] at h
        omega
      rw [ho]
      rw [decB_cut hin] at HD
      generalize Oct.takeS m i 10 = Z at *
      obtain ⟨⟨c0, c1, c2, c3, c4⟩, ⟨f0, f1, f2, f3, f4⟩, hg⟩ := O0
      go_wp2
      exact bodyPost_ret (v := decV (badD 2)) (by simp [results, Try.results10, go_sem, decV, badD, noRec, recV, c0, c1, c2, c3, c4]) rfl ⟨by rw [HD.out], ((((K.setCell (p := ⟨G, 0, none⟩) hle _).setCell (p := ⟨G, 1, none⟩) hle _).setCell (p := ⟨G, 2, none⟩) hle _).setCell (p := ⟨G, 3, none⟩) hle _).setCell (p := ⟨G, 4, none⟩) hle _⟩
  · have HD : Hid (decR m p = badD (Cm.readL (bl m) p).e) := if_neg he
    generalize decR m p = D at *
    generalize Cm.readL (bl m) p = R at *
    go_enter Try.func10, Try.ntmps10
    go_wp2_with fail
    refine (HR.out _).mono ?_
    rintro e wk ⟨rfl, hw⟩
    subst hw
    have hne : ((R.e : Int) != 0) = true := by rw [bne_iff_ne]; omega
    obtain ⟨⟨c0, c1, c2, c3, c4⟩, ⟨f0, f1, f2, f3, f4⟩, hg⟩ := O0
    generalize w.alloc (.cells #[.string ⟨#[]⟩, .int .i64 0, .int .i64 0, .int .i64 0, .string ⟨#[]⟩] 24) = W at *
    clear HR
    generalize hGG : w.heap.size = G at *
    have hle : w.heap.size ≤ G := Nat.le_of_eq hGG
    clear hGG
    go_wp2
    exact bodyPost_ret (v := decV (badD R.e)) (by simp [results, Try.results10, go_sem, decV, badD, noRec, recV, c0, c1, c2, c3, c4]) rfl ⟨by rw [HD.out], ((((K.setCell (p := ⟨G, 0, none⟩) hle _).setCell (p := ⟨G, 1, none⟩) hle _).setCell (p := ⟨G, 2, none⟩) hle _).setCell (p := ⟨G, 3, none⟩) hle _).setCell (p := ⟨G, 4, none⟩) hle _⟩

set_option maxHeartbeats 4000000 in
theorem refencode_any (base : ByteArray) (p : Int) (r : Rec) (w : World) (hb : base.size ≤ maxLen) (hn : r.n.size ≤ maxLen) (hd : r.d.size ≤ 1000000) :
    Calls Try.prog 14 #[.string base, .int .i64 p, recV r] w fun e w' => e = .returned (.string (encS base p r)) ∧ Keeps w w' := by
  have HC := hide (fun W => refrcheck_any r W hn (by unfold maxLen; omega))
  have HW := hide (fun W => refwrite_any base p r.n W hb hn)
  have B0 := Box5.made w (.string r.n) (.int .i64 r.t) (.int .i64 r.c) (.int .i64 r.l) (.string r.d) 24
  have K := (Keeps.refl w).alloc (.cells #[.string r.n, .int .i64 r.t, .int .i64 r.c, .int .i64 r.l, .string r.d] 24)
  cases h1 : recOk r
  · have HF := hide (enc_no (base := base) (p := p) (r := r) (by simp [encOk, h1])).1
    rw [h1] at HC
    unfold recV at *
    go_enter Try.func14, Try.ntmps14
    go_wp2_with fail
    refine (HW.out _).mono ?_
    rintro e wk ⟨rfl, k1⟩
    obtain ⟨c0, c1, c2, c3, c4, c5⟩ := B0.keeps k1
    go_wp2_with fail
    refine (HC.out _).mono ?_
    rintro e wk2 ⟨rfl, k2⟩
    go_wp2
    go_ret
    exact ⟨ret_str HF.out.symm, (K.trans k1).trans k2⟩
  rw [h1] at HC
  cases h2 : Cm.wrOk (bl base) p (bl r.n)
  · have HF := hide (enc_no (base := base) (p := p) (r := r) (by simp [encOk, h2])).1
    rw [wr_none.2 h2] at HW
    unfold recV at *
    go_enter Try.func14, Try.ntmps14
    go_wp2_with fail
    refine (HW.out _).mono ?_
    rintro e wk ⟨rfl, k1⟩
    obtain ⟨c0, c1, c2, c3, c4, c5⟩ := B0.keeps k1
    go_wp2_with fail
    refine (HC.out _).mono ?_
    rintro e wk2 ⟨rfl, k2⟩
    go_wp2
    go_ret
    exact ⟨ret_str HF.out.symm, (K.trans k1).trans k2⟩
  · have HF := hide (enc_yes (base := base) (p := p) (r := r) (by simp [encOk, h1, h2])).2.2.2.2
    have hw := wr_pos h2
    have hrt := (recOk_spec r).1 h1
    have t1 : r.t ≤ 9223372036854775807 := by omega
    have t2 : r.c ≤ 9223372036854775807 := by omega
    have t3 : r.l ≤ 9223372036854775807 := by omega
    have t4 : (r.d.size : Int) ≤ 9223372036854775807 := by omega
    clear hrt
    have hne : ((wrS base p r.n).toList == []) = false := by
      rw [toList_bl, beq_eq_false_iff_ne]
      intro h
      have hl := hw.1
      rw [← bl_length, h] at hl
      exact absurd hl (by decide)
    generalize wrS base p r.n = X at *
    have s1 := put_len r.t 2
    have s2 := put_len r.c 2
    have s3 := put_len r.l 4
    have s4 := put_len r.d.size 2
    have a1 : ∀ w, (Op.stringOp .add X (Oct.putS r.t 2)).run Try.prog w = .ok (.string (X ++ Oct.putS r.t 2)) w := fun w => run_string_add_sum w _ _ (by omega)
    have a2 : ∀ w, (Op.stringOp .add (X ++ Oct.putS r.t 2) (Oct.putS r.c 2)).run Try.prog w = .ok (.string (X ++ Oct.putS r.t 2 ++ Oct.putS r.c 2)) w := fun w => run_string_add_sum w _ _ (by rw [ByteArray.size_append]; omega)
    have a3 : ∀ w, (Op.stringOp .add (X ++ Oct.putS r.t 2 ++ Oct.putS r.c 2) (Oct.putS r.l 4)).run Try.prog w = .ok (.string (X ++ Oct.putS r.t 2 ++ Oct.putS r.c 2 ++ Oct.putS r.l 4)) w := fun w => run_string_add_sum w _ _ (by rw [ByteArray.size_append, ByteArray.size_append]; omega)
    have a4 : ∀ w, (Op.stringOp .add (X ++ Oct.putS r.t 2 ++ Oct.putS r.c 2 ++ Oct.putS r.l 4) (Oct.putS r.d.size 2)).run Try.prog w = .ok (.string (X ++ Oct.putS r.t 2 ++ Oct.putS r.c 2 ++ Oct.putS r.l 4 ++ Oct.putS r.d.size 2)) w := fun w => run_string_add_sum w _ _ (by rw [ByteArray.size_append, ByteArray.size_append, ByteArray.size_append]; omega)
    have a5 : ∀ w, (Op.stringOp .add (X ++ Oct.putS r.t 2 ++ Oct.putS r.c 2 ++ Oct.putS r.l 4 ++ Oct.putS r.d.size 2) r.d).run Try.prog w = .ok (.string (X ++ Oct.putS r.t 2 ++ Oct.putS r.c 2 ++ Oct.putS r.l 4 ++ Oct.putS r.d.size 2 ++ r.d)) w := fun w => run_string_add_sum w _ _ (by rw [ByteArray.size_append, ByteArray.size_append, ByteArray.size_append, ByteArray.size_append]; omega)
    unfold recV at *
    go_enter Try.func14, Try.ntmps14
    go_wp2_with fail
    refine (HW.out _).mono ?_
    rintro e wk ⟨rfl, k1⟩
    obtain ⟨c0, c1, c2, c3, c4, c5⟩ := B0.keeps k1
    go_wp2_with fail
    refine (HC.out _).mono ?_
    rintro e wk2 ⟨rfl, k2⟩
    have B2 := (B0.keeps k1).keeps k2
    clear c0 c1 c2 c3 c4 c5 B0
    have KK : Keeps w wk2.drew := ((K.trans k1).trans k2).drew
    go_wp2_with fail
    generalize w.heap.size = G at *
    have T1 : Box5 G (.string r.n) (.int .i64 r.t) (.int .i64 r.c) (.int .i64 r.l) (.string r.d) wk2.drew := B2
    go_region_held3 (fun w' => w'.cell? ⟨G, 0, none⟩ = some (.string r.n) ∧ w'.cell? ⟨G, 1, none⟩ = some (.int .i64 r.t) ∧ w'.cell? ⟨G, 2, none⟩ = some (.int .i64 r.c) ∧ w'.cell? ⟨G, 3, none⟩ = some (.int .i64 r.l) ∧ w'.cell? ⟨G, 4, none⟩ = some (.string r.d) ∧ G < w'.heap.size) ((first | exact T1 | exact Box5.keeps T1 (by assumption) | exact Box5.keeps (Box5.keeps T1 (by assumption)) (by assumption) | exact Box5.keeps (Box5.keeps (Box5.keeps T1 (by assumption)) (by assumption)) (by assumption) | exact Box5.keeps (Box5.keeps (Box5.keeps (Box5.keeps T1 (by assumption)) (by assumption)) (by assumption)) (by assumption))) ((go_at_call 20; refine (refput_any _ _ _ (by assumption)).mono ?_; rintro e w5 ⟨rfl, k5⟩; replace KK := Keeps.trans KK k5))
    go_wp2
    go_ret
    exact ⟨ret_str HF.out.symm, KK⟩

set_option maxHeartbeats 2000000 in
theorem refttl_any (base : ByteArray) (p : Int) (r : Rec) (w : World) (hb : base.size ≤ maxLen) (hn : r.n.size ≤ maxLen) (hd : r.d.size ≤ 1000000) :
    Calls Try.prog 16 #[.string base, .int .i64 p, recV r] w fun e w' => e = .returned (.int .i64 (ttlAt base p r)) ∧ Keeps w w' := by
  have HC := hide (fun W => refencode_any base p r W hb hn hd)
  have HW := hide (fun W => refwrite_any base p r.n W hb hn)
  have B0 := Box5.made w (.string r.n) (.int .i64 r.t) (.int .i64 r.c) (.int .i64 r.l) (.string r.d) 24
  have K := (Keeps.refl w).alloc (.cells #[.string r.n, .int .i64 r.t, .int .i64 r.c, .int .i64 r.l, .string r.d] 24)
  cases h1 : encOk base p r
  · have HF := hide (enc_no h1).2
    rw [(enc_no h1).1] at HC
    unfold recV at *
    go_enter Try.func16, Try.ntmps16
    go_wp2_with fail
    refine (HC.out _).mono ?_
    rintro e wk ⟨rfl, k1⟩
    go_wp2
    go_ret
    exact ⟨ret_int HF.out.symm, K.trans k1⟩
  · have HF : Hid (ttlAt base p r = (wrS base p r.n).size + 4) := if_pos h1
    have h2 : Cm.wrOk (bl base) p (bl r.n) = true := by
      have : recOk r = true ∧ Cm.wrOk (bl base) p (bl r.n) = true := by simpa [encOk] using h1
      exact this.2
    have hw := wr_pos h2
    have hne : ((encS base p r).toList == []) = false := by
      rw [toList_bl, beq_eq_false_iff_ne]
      intro h
      have hl := bl_length (encS base p r)
      rw [h, encS, if_pos h1, ByteArray.size_append] at hl
      simp at hl
      omega
    generalize wrS base p r.n = X at *
    generalize encS base p r = Y at *
    unfold recV at *
    go_enter Try.func16, Try.ntmps16
    go_wp2_with fail
    refine (HC.out _).mono ?_
    rintro e wk ⟨rfl, k1⟩
    obtain ⟨c0, c1, c2, c3, c4, c5⟩ := B0.keeps k1
    go_wp2_with fail
    refine (HW.out _).mono ?_
    rintro e wk2 ⟨rfl, k2⟩
    go_wp2
    go_ret
    exact ⟨ret_int HF.out.symm, (K.trans k1).trans k2⟩
end Go.Proofs.Ythoominldliphaa
