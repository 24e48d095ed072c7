/- The document's Encode of messages. No condition but lengths. -/
import Derived.Test.YtcohceggooockaaMsgE2
import Derived.Test.YtcohceggooockaaMsgWA
import Derived.Test.YtcohceggooockaaMany
import Derived.Deep.RegionHeld3
namespace Go.Proofs.Ytcohceggooockaa
open Go.RowKit

theorem appQ_step (b : ByteArray) (qs : List Qn) (j : Nat) (hj : j < qs.length) : appQ b (qs.take (j + 1)) = appQ b (qs.take j) ++ qs[j].n ++ Oct.putS qs[j].t 2 ++ Oct.putS qs[j].c 2 := by
  rw [List.take_succ_eq_append_getElem hj]
  unfold appQ
  rw [List.foldl_append]
  simp only [List.foldl_cons, List.foldl_nil, qnS, ByteArray.append_assoc]
theorem recL8_onesE (r : Rec) : ∀ u ∈ recL8 r, u.oneCell' = true := by
  intro u hu
  simp only [recL8, List.mem_cons, List.not_mem_nil, or_false] at hu
  rcases hu with rfl | rfl | rfl | rfl | rfl <;> rfl
theorem rows8 (l : List Rec) : (∀ r ∈ l.map recL8, r.length = 5) ∧ (∀ r ∈ l.map recL8, ∀ u ∈ r, u.oneCell' = true) := by
  refine ⟨?_, ?_⟩
  · intro r hr
    rw [List.mem_map] at hr
    obtain ⟨x, _, rfl⟩ := hr
    rfl
  · intro r hr
    rw [List.mem_map] at hr
    obtain ⟨x, _, rfl⟩ := hr
    exact recL8_onesE x

set_option maxHeartbeats 16000000 in
set_option maxRecDepth 100000 in
theorem refEncode8_any (v : Value) (m : Ms) (w : World) (h : MsAt w v m) (hf : MsFine m) :
    Calls Try.prog 17 #[v] w fun e w' => e = .returned (.tuple #[.string (encM m).1, .int .i64 (encM m).2]) ∧ Keeps w w' := by
  have hM := h
  obtain ⟨E, hE⟩ : ∃ E, encM m = E := ⟨_, rfl⟩
  rw [hE]
  replace hE := hide hE
  have HC := hide (fun W (k : Keeps w W) => refCheck8_any v m W (hM.keeps k) hf)
  have HB := hide (fun W (k : Keeps w W) => refBase_any v m W (hM.keeps k))
  obtain ⟨vq, va, vn, vr, rfl, rq, ra, rn, rr⟩ := h
  obtain ⟨aq, cq, hq⟩ := rq.len
  obtain ⟨aa, ca, ha⟩ := ra.len
  obtain ⟨an, cn, hn⟩ := rn.len
  obtain ⟨ar, cr, hr⟩ := rr.len
  rw [List.length_map] at hq ha hn hr
  subst hq ha hn hr
  clear hM
  have B := hide (Blk.made w #[.int .i64 m.id, .int .i64 m.bits, .slice aq m.qs.length cq, .slice aa m.an.length ca, .slice an m.ns.length cn, .slice ar m.ar.length cr] 26)
  have K := hide ((Keeps.refl w).alloc (.cells #[.int .i64 m.id, .int .i64 m.bits, .slice aq m.qs.length cq, .slice aa m.an.length ca, .slice an m.ns.length cn, .slice ar m.ar.length cr] 26))
  go_enter Try.func17, Try.ntmps17
  go_upto_region 1 with fail
  generalize w.alloc (.cells #[.int .i64 m.id, .int .i64 m.bits, .slice aq m.qs.length cq, .slice aa m.an.length ca, .slice an m.ns.length cn, .slice ar m.ar.length cr] 26) = W at *
  generalize w.heap.size = M at B ⊢
  obtain ⟨b0, b1, b2, b3, b4, b5, _⟩ := B.out.six6
  go_wp2_with fail
  refine (HC.out _ K.out).mono ?_
  rintro e w1 ⟨rfl, k1⟩
  replace B := hide (B.out.keeps k1)
  replace K := hide (K.out.trans k1)
  clear b0 b1 b2 b3 b4 b5
  clear k1 HC
  cases ho : msOk m
  · have HE : Hid (E = (⟨#[]⟩, 1)) := by rw [Hid, ← hE.out]; simp [encM, ho]
    go_wp2
    go_ret2
    exact ⟨by rw [HE.out]; rfl, K.out⟩
  have HE : Hid (E = if 65535 < (encT m).size then (⟨#[]⟩, 6) else (encT m, 0)) := by rw [Hid, ← hE.out]; simp [encM, ho]
  obtain ⟨u1, u2, u3, u4, u5, u6, u7, u8⟩ := qs_fine ho
  have hid : m.id ≤ 9223372036854775807 ∧ m.bits ≤ 9223372036854775807 ∧ (∀ q ∈ m.qs, q.t ≤ 9223372036854775807 ∧ q.c ≤ 9223372036854775807) := by
    simp only [msOk, Bool.and_eq_true, List.all_eq_true, num2, decide_eq_true_eq] at ho
    obtain ⟨⟨⟨⟨⟨p1, p2⟩, _, q2⟩, _⟩, _⟩, _⟩ := ho
    refine ⟨by omega, by omega, fun q hq => ?_⟩
    have := q2 q hq
    simp only [qnOk, Bool.and_eq_true, num2, decide_eq_true_eq] at this
    omega
  obtain ⟨t1, t2, t7⟩ := hid
  have t3 : (m.qs.length : Int) ≤ 9223372036854775807 := by omega
  have t4 : (m.an.length : Int) ≤ 9223372036854775807 := by omega
  have t5 : (m.ns.length : Int) ≤ 9223372036854775807 := by omega
  have t6 : (m.ar.length : Int) ≤ 9223372036854775807 := by omega
  replace ho := hide ho
  replace t7 := hide t7
  replace u1 := hide u1
  have U6 := hide u6
  have U7 := hide u7
  have U8 := hide u8
  clear u6 u7 u8
  have HH := hide (show headS m = Oct.putS m.id 2 ++ Oct.putS m.bits 2 ++ Oct.putS m.qs.length 2 ++ Oct.putS m.an.length 2 ++ Oct.putS m.ns.length 2 ++ Oct.putS m.ar.length 2 from rfl)
  have HX := hide (show encT m = appR (baseS m) (appQ (headS m) m.qs) (m.an ++ m.ns ++ m.ar) from rfl)
  clear hE
  generalize encT m = X at *
  generalize headS m = HD at *
  have s1 := put_len m.id 2
  have s2 := put_len m.bits 2
  have s3 := put_len m.qs.length 2
  have s4 := put_len m.an.length 2
  have s5 := put_len m.ns.length 2
  have s6 := put_len m.ar.length 2
  have g1 : ∀ w, (Op.stringOp .add (Oct.putS m.id 2) (Oct.putS m.bits 2)).run Try.prog w = .ok (.string (Oct.putS m.id 2 ++ Oct.putS m.bits 2)) w := fun w => run_string_add_sum w _ _ (by omega)
  have g2 : ∀ w, (Op.stringOp .add (Oct.putS m.id 2 ++ Oct.putS m.bits 2) (Oct.putS m.qs.length 2)).run Try.prog w = .ok (.string (Oct.putS m.id 2 ++ Oct.putS m.bits 2 ++ Oct.putS m.qs.length 2)) w := fun w => run_string_add_sum w _ _ (by rw [ByteArray.size_append]; omega)
  have g3 : ∀ w, (Op.stringOp .add (Oct.putS m.id 2 ++ Oct.putS m.bits 2 ++ Oct.putS m.qs.length 2) (Oct.putS m.an.length 2)).run Try.prog w = .ok (.string (Oct.putS m.id 2 ++ Oct.putS m.bits 2 ++ Oct.putS m.qs.length 2 ++ Oct.putS m.an.length 2)) w := fun w => run_string_add_sum w _ _ (by rw [ByteArray.size_append, ByteArray.size_append]; omega)
  have g4 : ∀ w, (Op.stringOp .add (Oct.putS m.id 2 ++ Oct.putS m.bits 2 ++ Oct.putS m.qs.length 2 ++ Oct.putS m.an.length 2) (Oct.putS m.ns.length 2)).run Try.prog w = .ok (.string (Oct.putS m.id 2 ++ Oct.putS m.bits 2 ++ Oct.putS m.qs.length 2 ++ Oct.putS m.an.length 2 ++ Oct.putS m.ns.length 2)) w := fun w => run_string_add_sum w _ _ (by rw [ByteArray.size_append, ByteArray.size_append, ByteArray.size_append]; omega)
  have g5 : ∀ w, (Op.stringOp .add (Oct.putS m.id 2 ++ Oct.putS m.bits 2 ++ Oct.putS m.qs.length 2 ++ Oct.putS m.an.length 2 ++ Oct.putS m.ns.length 2) (Oct.putS m.ar.length 2)).run Try.prog w = .ok (.string (Oct.putS m.id 2 ++ Oct.putS m.bits 2 ++ Oct.putS m.qs.length 2 ++ Oct.putS m.an.length 2 ++ Oct.putS m.ns.length 2 ++ Oct.putS m.ar.length 2)) w := fun w => run_string_add_sum w _ _ (by rw [ByteArray.size_append, ByteArray.size_append, ByteArray.size_append, ByteArray.size_append]; omega)
  have HHs : Hid (HD.size ≤ 24) := by
    rw [Hid, HH.out]
    simp only [ByteArray.size_append]
    omega
  have HT : Hid (∀ w', Keeps w1.drew w' → w'.cell? ⟨M, 0, none⟩ = some (.int .i64 m.id) ∧ w'.cell? ⟨M, 1, none⟩ = some (.int .i64 m.bits) ∧ w'.cell? ⟨M, 2, none⟩ = some (.slice aq m.qs.length cq) ∧ w'.cell? ⟨M, 3, none⟩ = some (.slice aa m.an.length ca) ∧ w'.cell? ⟨M, 4, none⟩ = some (.slice an m.ns.length cn) ∧ w'.cell? ⟨M, 5, none⟩ = some (.slice ar m.ar.length cr)) := fun w' q => ⟨(B.out.drew.keeps q).cell 0, (B.out.drew.keeps q).cell 1, (B.out.drew.keeps q).cell 2, (B.out.drew.keeps q).cell 3, (B.out.drew.keeps q).cell 4, (B.out.drew.keeps q).cell 5⟩
  have T := HT.out _ (Keeps.refl _)
  have KK : Keeps w1.drew w1.drew := Keeps.refl _
  clear s1 s2 s3 s4 s5 s6
  go_wp2_with fail
  go_region_held3 (fun w' => w'.cell? ⟨M, 0, none⟩ = some (.int .i64 m.id) ∧ w'.cell? ⟨M, 1, none⟩ = some (.int .i64 m.bits) ∧ w'.cell? ⟨M, 2, none⟩ = some (.slice aq m.qs.length cq) ∧ w'.cell? ⟨M, 3, none⟩ = some (.slice aa m.an.length ca) ∧ w'.cell? ⟨M, 4, none⟩ = some (.slice an m.ns.length cn) ∧ w'.cell? ⟨M, 5, none⟩ = some (.slice ar m.ar.length cr)) (exact T) ((first | (go_at_call 37; refine (refput_any _ _ _ (by assumption)).mono ?_; rintro e w5 ⟨rfl, k5⟩; replace KK := Keeps.trans KK k5; replace T := HT.out _ KK; clear k5)))
  replace B := hide (B.out.drew.keeps KK)
  replace K := hide (K.out.drew.trans KK)
  rw [← HH.out]
  clear T HT KK g1 g2 g3 g4 g5 HH t1 t2 t3 t4 t5 t6
  have RQ := hide rq
  have RA := hide ra
  have RN := hide rn
  have RR8 := hide rr
  clear rq ra rn rr
  have hbs : (baseS m).size ≤ 255 := by
    unfold baseS
    split
    · decide
    · rename_i q qs hqq
      exact u1.out q (by rw [hqq]; simp)
  go_wp2_with fail
  go_loopw [4, 5] (fun s i wr => ∃ j : Nat, j ≤ m.qs.length ∧ i = .int .i64 j ∧ s = .string (appQ HD (m.qs.take j)) ∧ Hid ((appQ HD (m.qs.take j)).size ≤ 24 + 300 * j) ∧ Blk wr M #[.int .i64 m.id, .int .i64 m.bits, .slice aq m.qs.length cq, .slice aa m.an.length ca, .slice an m.ns.length cn, .slice ar m.ar.length cr] 26 ∧ Keeps w wr) (fun _ i _ => m.qs.length - (intOf i).toNat)
  case atStart => exact ⟨0, by omega, rfl, rfl, by simpa [Hid, appQ] using HHs.out, B.out, K.out⟩
  case round =>
    clear B K
    obtain ⟨j, hj, rfl, rfl, HZ, B, K⟩ := hrel
    replace B := hide B
    replace K := hide K
    by_cases hlt : j < m.qs.length
    · have i2 : (j : Int) < (m.qs.length : Int) := by omega
      have i0 : (0 : Int) ≤ (j : Int) := by omega
      have hr2 := RQ.out.keeps K.out
      obtain ⟨b, off, rfl, hb0, _⟩ := hr2.parts (by rw [List.length_map]; omega)
      obtain ⟨c0, c1, c2⟩ := row3 hr2 hlt
      have hx := u1.out _ (List.getElem_mem hlt)
      have hy := t7.out _ (List.getElem_mem hlt)
      have HST := hide (appQ_step HD m.qs j hlt)
      generalize hoo : off + j * 3 = o at *
      generalize m.qs[j] = x at *
      have hZ := HZ.out
      generalize hYY : appQ HD (m.qs.take j) = Y at *
      replace hYY := hide hYY
      have s1 := put_len x.t 2
      have s2 := put_len x.c 2
      have g1 : ∀ w, (Op.stringOp .add Y x.n).run Try.prog w = .ok (.string (Y ++ x.n)) w := fun w => run_string_add_sum w _ _ (by omega)
      have g2 : ∀ w, (Op.stringOp .add (Y ++ x.n) (Oct.putS x.t 2)).run Try.prog w = .ok (.string (Y ++ x.n ++ Oct.putS x.t 2)) w := fun w => run_string_add_sum w _ _ (by rw [ByteArray.size_append]; omega)
      have g3 : ∀ w, (Op.stringOp .add (Y ++ x.n ++ Oct.putS x.t 2) (Oct.putS x.c 2)).run Try.prog w = .ok (.string (Y ++ x.n ++ Oct.putS x.t 2 ++ Oct.putS x.c 2)) w := fun w => run_string_add_sum w _ _ (by rw [ByteArray.size_append, ByteArray.size_append]; omega)
      have HZ2 : Hid ((Y ++ x.n ++ Oct.putS x.t 2 ++ Oct.putS x.c 2).size ≤ 24 + 300 * (j + 1)) := by
        rw [Hid]
        simp only [ByteArray.size_append]
        omega
      have HT : Hid (∀ w', Keeps wr.drew w' → w'.cell? ⟨M, 0, none⟩ = some (.int .i64 m.id) ∧ w'.cell? ⟨M, 1, none⟩ = some (.int .i64 m.bits) ∧ w'.cell? ⟨M, 2, none⟩ = some (.slice (some ⟨b, off, none⟩) m.qs.length cq) ∧ w'.cell? ⟨M, 3, none⟩ = some (.slice aa m.an.length ca) ∧ w'.cell? ⟨M, 4, none⟩ = some (.slice an m.ns.length cn) ∧ w'.cell? ⟨M, 5, none⟩ = some (.slice ar m.ar.length cr) ∧ w'.cell? ⟨b, o, none⟩ = some (.string x.n) ∧ w'.cell? ⟨b, o + 1, none⟩ = some (.int .i64 x.t) ∧ w'.cell? ⟨b, o + 2, none⟩ = some (.int .i64 x.c)) := fun w' q => ⟨(B.out.drew.keeps q).cell 0, (B.out.drew.keeps q).cell 1, (B.out.drew.keeps q).cell 2, (B.out.drew.keeps q).cell 3, (B.out.drew.keeps q).cell 4, (B.out.drew.keeps q).cell 5, (Below.cell (p := ⟨b, o, none⟩) q hb0).trans c0, (Below.cell (p := ⟨b, o + 1, none⟩) q hb0).trans c1, (Below.cell (p := ⟨b, o + 2, none⟩) q hb0).trans c2⟩
      have T := HT.out _ (Keeps.refl _)
      have KK : Keeps wr.drew wr.drew := Keeps.refl _
      have e2 := B.out.cell 2
      simp only [List.getElem?_toArray, List.getElem?_cons_zero, List.getElem?_cons_succ] at e2
      obtain ⟨y1, y2⟩ := hy
      clear s1 s2 hx hZ HZ hr2 c0 c1 c2
      go_wp2_with fail
      clear e2
      go_region_held3 (fun w' => w'.cell? ⟨M, 0, none⟩ = some (.int .i64 m.id) ∧ w'.cell? ⟨M, 1, none⟩ = some (.int .i64 m.bits) ∧ w'.cell? ⟨M, 2, none⟩ = some (.slice (some ⟨b, off, none⟩) m.qs.length cq) ∧ w'.cell? ⟨M, 3, none⟩ = some (.slice aa m.an.length ca) ∧ w'.cell? ⟨M, 4, none⟩ = some (.slice an m.ns.length cn) ∧ w'.cell? ⟨M, 5, none⟩ = some (.slice ar m.ar.length cr) ∧ w'.cell? ⟨b, o, none⟩ = some (.string x.n) ∧ w'.cell? ⟨b, o + 1, none⟩ = some (.int .i64 x.t) ∧ w'.cell? ⟨b, o + 2, none⟩ = some (.int .i64 x.c)) (exact T) ((first | (go_at_call 37; refine (refput_any _ _ _ (by assumption)).mono ?_; rintro e w5 ⟨rfl, k5⟩; replace KK := Keeps.trans KK k5; replace T := HT.out _ KK; clear k5)))
      replace B := hide (B.out.drew.keeps KK)
      replace K := hide (K.out.drew.trans KK)
      clear T HT KK g1 g2 g3 y1 y2
      have HV : Hid (Y ++ x.n ++ Oct.putS x.t 2 ++ Oct.putS x.c 2 = appQ HD (m.qs.take (j + 1))) := HST.out.symm
      rw [HV.out] at HZ2 ⊢
      go_wp2_with fail
      go_roundw
      case rel => exact ⟨j + 1, by omega, by go_num, rfl, HZ2.out, B.out, K.out⟩
      case measure => simp [intOf]; omega
    · obtain rfl : j = m.qs.length := by omega
      rw [List.take_length] at HZ ⊢
      obtain ⟨H0, hH0⟩ : ∃ H0, H0 = wr.heap.size := ⟨_, rfl⟩
      have hle0 : H0 ≤ wr.heap.size := by omega
      have hB0 : M < H0 := by rw [hH0]; exact B.out.lt
      have hw0 : w.heap.size ≤ H0 := by rw [hH0]; exact K.out.size
      replace hH0 := hide hH0
      obtain ⟨b0, b1, b2, b3, b4, b5, _⟩ := B.out.six6
      have RA1 := RA.out.keeps K.out
      go_wp2_with (at_builtin; refine wpList_appRs 44 24 5 56 (recV noRec) _ Try.underlying24 Try.infoRR rfl (by decide) rfl _ _ rfl H0 _ [] rfl (OwnsR.nil _ _ _ _) (.slice aa m.an.length ca) rfl (m.an.map recL8) RA1 (rows8 m.an).1 (rows8 m.an).2 ?zzb1 ?zzc1 ?zzd1 ?_)
      case zzb1 => simp; unfold maxLen; omega
      case zzc1 => simp; omega
      case zzd1 => exact hle0
      intro v1 w2 hown1 hb1 _
      replace B := hide (B.out.below hb1 hB0)
      replace K := hide (show Keeps w w2 from Below.trans K.out (Below.mono hb1 hw0))
      have hle1 : H0 ≤ w2.heap.size := Nat.le_trans hle0 hb1.size
      have O1 := hide hown1
      clear hb1 hown1 RA1 hle0 b0 b1 b2 b3 b4 b5
      obtain ⟨b0, b1, b2, b3, b4, b5, _⟩ := B.out.six6
      have RA1 := RN.out.keeps K.out
      go_wp2_with (at_builtin; refine wpList_appRs 44 24 5 56 (recV noRec) _ Try.underlying24 Try.infoRR rfl (by decide) rfl _ _ rfl H0 _ _ rfl O1.out (.slice an m.ns.length cn) rfl (m.ns.map recL8) RA1 (rows8 m.ns).1 (rows8 m.ns).2 ?zzb2 ?zzc2 ?zzd2 ?_)
      case zzb2 => simp; unfold maxLen; omega
      case zzc2 => simp; omega
      case zzd2 => exact hle1
      intro v2 w3 hown1 hb1 _
      replace B := hide (B.out.below hb1 hB0)
      replace K := hide (show Keeps w w3 from Below.trans K.out (Below.mono hb1 hw0))
      have hle2 : H0 ≤ w3.heap.size := Nat.le_trans hle1 hb1.size
      have O2 := hide hown1
      clear hb1 hown1 RA1 hle1 O1 b0 b1 b2 b3 b4 b5
      obtain ⟨b0, b1, b2, b3, b4, b5, _⟩ := B.out.six6
      have RA1 := RR8.out.keeps K.out
      go_wp2_with (at_builtin; refine wpList_appRs 44 24 5 56 (recV noRec) _ Try.underlying24 Try.infoRR rfl (by decide) rfl _ _ rfl H0 _ _ rfl O2.out (.slice ar m.ar.length cr) rfl (m.ar.map recL8) RA1 (rows8 m.ar).1 (rows8 m.ar).2 ?zzb3 ?zzc3 ?zzd3 ?_)
      case zzb3 => simp; unfold maxLen; omega
      case zzc3 => simp; omega
      case zzd3 => exact hle2
      intro v3 w4 hown1 hb1 _
      replace B := hide (B.out.below hb1 hB0)
      replace K := hide (show Keeps w w4 from Below.trans K.out (Below.mono hb1 hw0))
      have O3 := hown1.read
      clear hb1 hown1 RA1 hle2 O2 b0 b1 b2 b3 b4 b5
      obtain ⟨al, hal⟩ : ∃ al, al = m.an ++ m.ns ++ m.ar := ⟨_, rfl⟩
      have O4 : ReadRow w4 v3 5 (al.map recL8) := by
        rw [hal, List.map_append, List.map_append]
        simpa using O3
      have hlen : al.length ≤ 196605 := by
        rw [hal]
        simp only [List.length_append]
        omega
      have hfin : ∀ x ∈ al, x.n.size ≤ 255 ∧ x.d.size ≤ 65535 := by
        intro x hx
        rw [hal, List.mem_append, List.mem_append] at hx
        rcases hx with (hx | hx) | hx
        · exact U6.out x hx
        · exact U7.out x hx
        · exact U8.out x hx
      rw [← hal] at HX
      replace hal := hide hal
      replace hfin := hide hfin
      clear O3 U6 U7 U8 RQ RA RN RR8 u1 t7 HHs
      have hY : (appQ HD m.qs).size ≤ 30000000 := by
        have := HZ.out
        omega
      clear HZ
      generalize appQ HD m.qs = Y at *
      generalize baseS m = bs at *
      obtain ⟨a3, c3, hv3⟩ := O4.len
      rw [List.length_map] at hv3
      subst hv3
      replace O4 := hide O4
      replace hbs := hide hbs
      go_wp2_with fail
      go_loopw [4, 7] (fun s i wr => ∃ (j : Nat) (cur : ByteArray), j ≤ al.length ∧ i = .int .i64 j ∧ s = .string cur ∧ Hid (X = appR bs cur (al.drop j)) ∧ Hid (cur.size ≤ 30000000) ∧ Blk wr M #[.int .i64 m.id, .int .i64 m.bits, .slice aq m.qs.length cq, .slice aa m.an.length ca, .slice an m.ns.length cn, .slice ar m.ar.length cr] 26 ∧ Keeps w4 wr) (fun _ i _ => al.length - (intOf i).toNat)
      case atStart => exact ⟨0, Y, by omega, rfl, rfl, by simpa [Hid] using HX.out, hY, B.out, Keeps.refl _⟩
      case round =>
        clear B HX hY
        obtain ⟨j, cur, hj, rfl, rfl, HX, hcur, B, K4⟩ := hrel
        replace B := hide B
        replace K4 := hide K4
        by_cases hcb : 65535 < cur.size
        · have hXc : Hid (X = cur) := by rw [Hid, HX.out, appR_long _ _ _ hcb]
          have HEE : Hid (E = (⟨#[]⟩, 6)) := by rw [Hid, HE.out, hXc.out, if_pos hcb]
          have d1 : decide ((cur.size : Int) ≤ 65535) = false := decide_eq_false (by omega)
          have d2 : decide ((65535 : Int) < (cur.size : Int)) = true := decide_eq_true (by omega)
          have d3 : ¬ cur.size ≤ 65535 := by omega
          by_cases hlt : j < al.length
          · have i2 : (j : Int) < (al.length : Int) := by omega
            go_wp2_with fail
            go_ret2
            exact ⟨by rw [HEE.out]; rfl, K.out.trans K4.out⟩
          · obtain rfl : j = al.length := by omega
            go_wp2_with fail
            go_ret2
            exact ⟨by rw [HEE.out]; rfl, K.out.trans K4.out⟩
        have d1 : decide ((cur.size : Int) ≤ 65535) = true := decide_eq_true (by omega)
        have d2 : decide ((65535 : Int) < (cur.size : Int)) = false := decide_eq_false (by omega)
        have d3 : cur.size ≤ 65535 := by omega
        by_cases hlt : j < al.length
        · have i2 : (j : Int) < (al.length : Int) := by omega
          have i0 : (0 : Int) ≤ (j : Int) := by omega
          have hr2 := O4.out.keeps K4.out
          obtain ⟨b, off, rfl, hb0, _⟩ := hr2.parts (by rw [List.length_map]; omega)
          obtain ⟨f0, f1, f2, f3, f4⟩ := row5 hr2 hlt
          have hx := hfin.out _ (List.getElem_mem hlt)
          have hdr : al.drop j = al[j] :: al.drop (j + 1) := List.drop_eq_getElem_cons hlt
          rw [hdr, Hid, appR_step _ _ _ _ hcb] at HX
          replace HX := hide HX
          have hen := enc_len bs al[j] hx.2
          have HEN := fun W => refencode_any bs 12 al[j] W (by have := hbs.out; unfold maxLen; omega) (by unfold maxLen; omega) (by omega)
          simp only [recV] at HEN
          generalize hoo : off + j * 5 = o at *
          generalize al[j] = x at *
          generalize encS bs 12 x = en at *
          replace HEN := hide HEN
          have g1 : ∀ w, (Op.stringOp .add cur en).run Try.prog w = .ok (.string (cur ++ en)) w := fun w => run_string_add_sum w _ _ (by omega)
          have HZ2 : Hid ((cur ++ en).size ≤ 30000000) := by
            rw [Hid, ByteArray.size_append]
            omega
          have HT : Hid (∀ w', Keeps wr.drew w' → w'.cell? ⟨M, 0, none⟩ = some (.int .i64 m.id) ∧ w'.cell? ⟨M, 1, none⟩ = some (.int .i64 m.bits) ∧ w'.cell? ⟨M, 2, none⟩ = some (.slice aq m.qs.length cq) ∧ w'.cell? ⟨M, 3, none⟩ = some (.slice aa m.an.length ca) ∧ w'.cell? ⟨M, 4, none⟩ = some (.slice an m.ns.length cn) ∧ w'.cell? ⟨M, 5, none⟩ = some (.slice ar m.ar.length cr) ∧ w'.cell? ⟨b, o, none⟩ = some (.string x.n) ∧ w'.cell? ⟨b, o + 1, none⟩ = some (.int .i64 x.t) ∧ w'.cell? ⟨b, o + 2, none⟩ = some (.int .i64 x.c) ∧ w'.cell? ⟨b, o + 3, none⟩ = some (.int .i64 x.l) ∧ w'.cell? ⟨b, o + 4, none⟩ = some (.string x.d)) := fun w' q => ⟨(B.out.drew.keeps q).cell 0, (B.out.drew.keeps q).cell 1, (B.out.drew.keeps q).cell 2, (B.out.drew.keeps q).cell 3, (B.out.drew.keeps q).cell 4, (B.out.drew.keeps q).cell 5, (Below.cell (p := ⟨b, o, none⟩) q hb0).trans f0, (Below.cell (p := ⟨b, o + 1, none⟩) q hb0).trans f1, (Below.cell (p := ⟨b, o + 2, none⟩) q hb0).trans f2, (Below.cell (p := ⟨b, o + 3, none⟩) q hb0).trans f3, (Below.cell (p := ⟨b, o + 4, none⟩) q hb0).trans f4⟩
          have T := HT.out _ (Keeps.refl _)
          have KK : Keeps wr.drew wr.drew := Keeps.refl _
          have KW := hide (K.out.trans K4.out.drew)
          clear hr2 hx hen hdr f0 f1 f2 f3 f4
          go_wp2_with fail
          go_region_held3 (fun w' => w'.cell? ⟨M, 0, none⟩ = some (.int .i64 m.id) ∧ w'.cell? ⟨M, 1, none⟩ = some (.int .i64 m.bits) ∧ w'.cell? ⟨M, 2, none⟩ = some (.slice aq m.qs.length cq) ∧ w'.cell? ⟨M, 3, none⟩ = some (.slice aa m.an.length ca) ∧ w'.cell? ⟨M, 4, none⟩ = some (.slice an m.ns.length cn) ∧ w'.cell? ⟨M, 5, none⟩ = some (.slice ar m.ar.length cr) ∧ w'.cell? ⟨b, o, none⟩ = some (.string x.n) ∧ w'.cell? ⟨b, o + 1, none⟩ = some (.int .i64 x.t) ∧ w'.cell? ⟨b, o + 2, none⟩ = some (.int .i64 x.c) ∧ w'.cell? ⟨b, o + 3, none⟩ = some (.int .i64 x.l) ∧ w'.cell? ⟨b, o + 4, none⟩ = some (.string x.d)) (exact T) ((first | (go_at_call 39; refine (HB.out _ (Keeps.trans KW.out KK)).mono ?_; rintro e w5 ⟨rfl, k5⟩; replace KK := Keeps.trans KK k5; replace T := HT.out _ KK; clear k5) | (go_at_call 38; refine (HEN.out _).mono ?_; rintro e w5 ⟨rfl, k5⟩; replace KK := Keeps.trans KK k5; replace T := HT.out _ KK; clear k5)))
          replace B := hide (B.out.drew.keeps KK)
          replace K4 := hide (K4.out.drew.trans KK)
          clear T HT KK g1 HEN
          go_wp2_with fail
          go_roundw
          case rel => exact ⟨j + 1, cur ++ en, by omega, by go_num, rfl, HX.out, HZ2.out, B.out, K4.out⟩
          case measure => simp [intOf]; omega
        · obtain rfl : j = al.length := by omega
          have hXc : Hid (X = cur) := by rw [Hid, HX.out, List.drop_length]; rfl
          have HEE : Hid (E = (cur, 0)) := by rw [Hid, HE.out, hXc.out, if_neg hcb]
          go_wp2_with fail
          go_ret2
          exact ⟨by rw [HEE.out]; rfl, K.out.trans K4.out⟩
end Go.Proofs.Ytcohceggooockaa
