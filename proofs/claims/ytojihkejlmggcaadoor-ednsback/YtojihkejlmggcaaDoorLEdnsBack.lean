/- EdnsBack answers true, for every input: the walk. The condition: the table of places reads as the program's text lays it. -/
import Derived.Test.YtojihkejlmggcaaDoorLEdnsFinds
import Derived.Test.YtojihkejlmggcaaDoorMany
import Derived.Test.YtojihkejlmggcaaDoorEdns7
namespace Go.Proofs.YtojihkejlmggcaaDoor
open Go.RowKit

theorem limit_range (o : Op) : 512 ≤ opLimit o ∧ opLimit o ≤ 4096 := by
  unfold opLimit
  split
  · rename_i h
    simp only [Bool.and_eq_true, decide_eq_true_eq] at h
    omega
  · omega
theorem find_back {m : Ms} {o : Op} (h0 : (findM m).2 = 0) (hh : (findM m).1.has = false) (ho : opOk o = true) : findM ⟨m.id, m.bits, m.qs, m.an, m.ns, opRec o :: m.ar⟩ = (o, 0) := by
  obtain ⟨e3, e2, ho'⟩ := opOf_rec ho
  unfold findM at h0 hh ⊢
  simp only
  by_cases ha : (m.an.any optB || m.ns.any optB) = true
  · rw [if_pos ha] at h0; simp at h0
  rw [if_neg ha] at h0 hh ⊢
  have hf : m.ar.filter optB = [] := by
    unfold findR at h0 hh
    match hm : m.ar.filter optB with
    | [] => rfl
    | [r] =>
      rw [hm] at h0 hh
      simp only at h0 hh
      by_cases hc : canB r = true
      · rw [if_pos hc] at hh; simp [opOf] at hh
      · rw [if_neg hc] at h0; simp at h0
    | _ :: _ :: _ => rw [hm] at h0; simp at h0
  rw [findR, List.filter_cons, if_pos ho', hf]
  simp only
  rw [if_pos e2, e3]

theorem ms_rows9 {w : World} {i b : Int} {vq va vn vr : Value} {m : Ms} (h : MsAt w (.agg #[.int .i64 i, .int .i64 b, vq, va, vn, vr]) m) : ReadRow w vq 3 (m.qs.map qnL) ∧ ReadRow w va 5 (m.an.map recL8) ∧ ReadRow w vn 5 (m.ns.map recL8) ∧ ReadRow w vr 5 (m.ar.map recL8) := by
  obtain ⟨vq', va', vn', vr', he, h1, h2, h3, h4⟩ := h
  simp only [Value.agg.injEq, Array.mk.injEq, List.cons.injEq, Value.int.injEq, true_and, and_true] at he
  obtain ⟨rfl, rfl, rfl, rfl, rfl, rfl⟩ := he
  exact ⟨h1, h2, h3, h4⟩
theorem recL8_one (r : Rec) : ∀ u ∈ recL8 r, u.oneCell' = true := by
  intro u hu
  simp only [recL8, List.mem_cons, List.not_mem_nil, or_false] at hu
  rcases hu with rfl | rfl | rfl | rfl | rfl <;> rfl
theorem OwnsR.apart {w : World} {B : Nat} {ty : TypeId} {c : Nat} {v : Value} {l : List (List Value)} (h : OwnsR w B ty c v l) {M : Nat} (hM : M < B) : ∀ b, v.ownBlock = some b → b ≠ M := by
  intro b hb
  have := (World.ownsRow.lt h.1 b hb).1
  omega
theorem small_len {m : Ms} (h : smallM m = true) : m.ar.length ≤ 200 := by
  simp only [smallM, Bool.and_eq_true, decide_eq_true_eq] at h
  omega

set_option maxHeartbeats 4000000 in
set_option maxRecDepth 100000 in
theorem EdnsBack_walk (o : Op) (v : Value) (m : Ms) (w : World) (T : Tab w) (hM : MsAt w v m) (hf : MsFine m) (_ : MsIn m) (hz : m.qs.length ≤ reachBytes ∧ m.an.length ≤ reachBytes ∧ m.ns.length ≤ reachBytes ∧ m.ar.length ≤ reachBytes) :
    Calls Tryd.prog 5 #[opV o, v] w fun e w' => e = .returned (.bool true) ∧ Keeps w w' := by
  have hsum : m.qs.length + m.an.length + m.ns.length + m.ar.length ≤ 9223372036854775807 := by
    have : reachBytes ≤ 140737488355328 := by decide
    omega
  obtain ⟨aq, kq, aa, ka, an, kn, ar, kr, rfl⟩ := hM.shape
  have HS := hide (fun W (k : Keeps w W) => Small_any _ m W (hM.keeps k) hf hsum)
  have HF := hide (fun W (k : Keeps w W) => Find_any _ m W (hM.keeps k) hf)
  have HR := hide (fun W => record_any o W)
  have HL := hide (fun W => limit_any o W)
  have hlim := limit_range o
  have HZ := hide (opRec_fine (o := o))
  have HT := hide T
  have HM := hide hM
  clear T hM hz hsum
  have HB := hide (fun h0 hh ho => find_back (m := m) (o := o) h0 hh ho)
  generalize opLimit o = L at *
  have B0 := hide ((Blk.made w #[.bool o.has, .int .i64 o.size, .int .i64 o.ext, .int .i64 o.vers, .bool o.dob] 33).alloc (.cells #[.int .i64 m.id, .int .i64 m.bits, .slice aq m.qs.length kq, .slice aa m.an.length ka, .slice an m.ns.length kn, .slice ar m.ar.length kr] 25))
  have B := Blk.made (w.alloc (.cells #[.bool o.has, .int .i64 o.size, .int .i64 o.ext, .int .i64 o.vers, .bool o.dob] 33)) #[.int .i64 m.id, .int .i64 m.bits, .slice aq m.qs.length kq, .slice aa m.an.length ka, .slice an m.ns.length kn, .slice ar m.ar.length kr] 25
  rw [size_alloc] at B
  replace B := hide B
  have K := hide (((Keeps.refl w).alloc (.cells #[.bool o.has, .int .i64 o.size, .int .i64 o.ext, .int .i64 o.vers, .bool o.dob] 33)).alloc (.cells #[.int .i64 m.id, .int .i64 m.bits, .slice aq m.qs.length kq, .slice aa m.an.length ka, .slice an m.ns.length kn, .slice ar m.ar.length kr] 25))
  have hMge : w.heap.size ≤ w.heap.size + 1 := Nat.le_succ _
  obtain ⟨oh, os, ox, ou, od⟩ := o
  unfold opV at HF HR HL ⊢
  simp only at HR HL B0 B K ⊢
  go_enter Tryd.func5, Tryd.ntmps5
  go_upto_region 1 with fail
  generalize (w.alloc (.cells #[.bool oh, .int .i64 os, .int .i64 ox, .int .i64 ou, .bool od] 33)).alloc (.cells #[.int .i64 m.id, .int .i64 m.bits, .slice aq m.qs.length kq, .slice aa m.an.length ka, .slice an m.ns.length kn, .slice ar m.ar.length kr] 25) = W at *
  generalize w.heap.size + 1 = M at *
  obtain ⟨y0, y1, y2, y3, y4, y5, y6⟩ := B.out.six6
  go_wp2_with fail
  refine (HS.out _ K.out).mono ?_
  rintro e w1 ⟨rfl, k1⟩
  replace B := hide (B.out.keeps k1)
  replace B0 := hide (B0.out.keeps k1)
  replace K := hide (K.out.trans k1)
  clear k1 HS y0 y1 y2 y3 y4 y5 y6
  cases hsm : smallM m
  · go_wp2_with fail
    refine (live9_any _ (HT.out.keeps K.out)).mono ?_
    rintro e w2 ⟨rfl, k1⟩
    go_wp2
    go_ret
    exact ⟨rfl, K.out.trans k1⟩
  obtain ⟨b0, b1, b2, b3, b4, _, _, _, _, _, _⟩ := B0.out.cell5
  go_upto_region 4 with fail
  clear b0 b1 b2 b3 b4 B0
  generalize findM m = F at HF HB
  obtain ⟨⟨kh, ks, kx, ku, kd⟩, kn⟩ := F
  generalize opRec ⟨oh, os, ox, ou, od⟩ = RR at *
  generalize opOk ⟨oh, os, ox, ou, od⟩ = ok at *
  obtain ⟨rn, rt, rc, rl, rd⟩ := RR
  simp only [recV] at HF HR HB
  have hGM := B.out.lt
  have k1 := (Keeps.refl w1).alloc (.cells #[.bool oh, .int .i64 os, .int .i64 ox, .int .i64 ou, .bool od] 29)
  have BX := hide (Blk.made w1 #[.bool oh, .int .i64 os, .int .i64 ox, .int .i64 ou, .bool od] 29)
  replace B := hide (B.out.keeps k1)
  replace K := hide (K.out.trans k1)
  clear k1
  generalize w1.alloc (.cells #[.bool oh, .int .i64 os, .int .i64 ox, .int .i64 ou, .bool od] 29) = W2 at *
  generalize w1.heap.size = G2 at *
  obtain ⟨b0, b1, b2, b3, b4, _, _, _, _, _, _⟩ := BX.out.cell5
  go_wp2_with fail
  refine (HL.out _).mono ?_
  rintro e w2 ⟨rfl, k1⟩
  replace B := hide (B.out.keeps k1)
  replace BX := hide (BX.out.keeps k1)
  replace K := hide (K.out.trans k1)
  clear k1 b0 b1 b2 b3 b4 HL
  have l1 : ¬ L < 512 := by omega
  have l2 : ¬ 4096 < L := by omega
  obtain ⟨y0, y1, y2, y3, y4, y5, y6⟩ := B.out.six6
  go_wp2_with fail
  refine (HF.out _ K.out).mono ?_
  rintro e w3 ⟨rfl, k1⟩
  replace B := hide (B.out.keeps k1)
  replace BX := hide (BX.out.keeps k1)
  replace K := hide (K.out.trans k1)
  clear k1 HF y0 y1 y2 y3 y4 y5 y6 l1 l2 hlim
  go_upto_region 8 with fail
  have k1 := (Keeps.refl w3).alloc (.cells #[.bool kh, .int .i64 ks, .int .i64 kx, .int .i64 ku, .bool kd] 29)
  have BK := hide (Blk.made w3 #[.bool kh, .int .i64 ks, .int .i64 kx, .int .i64 ku, .bool kd] 29)
  replace B := hide (B.out.keeps k1)
  replace BX := hide (BX.out.keeps k1)
  replace K := hide (K.out.trans k1)
  clear k1
  generalize w3.alloc (.cells #[.bool kh, .int .i64 ks, .int .i64 kx, .int .i64 ku, .bool kd] 29) = W3 at *
  generalize w3.heap.size = G3 at *
  obtain ⟨b0, b1, b2, b3, b4, _, _, _, _, _, _⟩ := BX.out.cell5
  go_wp2_with fail
  refine (HR.out _).mono ?_
  rintro e w4 ⟨rfl, k1⟩
  replace B := hide (B.out.keeps k1)
  replace BX := hide (BX.out.keeps k1)
  replace BK := hide (BK.out.keeps k1)
  replace K := hide (K.out.trans k1)
  clear k1 b0 b1 b2 b3 b4 HR
  go_upto_region 9 with fail
  have k1 := (Keeps.refl w4).alloc (.cells #[.string rn, .int .i64 rt, .int .i64 rc, .int .i64 rl, .string rd] 37)
  have BR := hide (Blk.made w4 #[.string rn, .int .i64 rt, .int .i64 rc, .int .i64 rl, .string rd] 37)
  replace B := hide (B.out.keeps k1)
  replace BX := hide (BX.out.keeps k1)
  replace BK := hide (BK.out.keeps k1)
  replace K := hide (K.out.trans k1)
  clear k1
  generalize w4.alloc (.cells #[.string rn, .int .i64 rt, .int .i64 rc, .int .i64 rl, .string rd] 37) = W4 at *
  generalize w4.heap.size = G4 at *
  obtain ⟨b0, b1, b2, b3, b4, _, _, _, _, _, _⟩ := BK.out.cell5
  by_cases hkn : ¬ kn = 0
  · have hne : ((kn : Int) != 0) = true := by rw [bne_iff_ne]; omega
    go_wp2_with fail
    refine (live9_any _ (HT.out.keeps K.out)).mono ?_
    rintro e wz ⟨rfl, kz⟩
    go_wp2
    go_ret
    exact ⟨rfl, K.out.trans kz⟩
  simp only [Decidable.not_not] at hkn
  subst hkn
  by_cases hkh : kh = true
  · subst hkh
    go_wp2_with fail
    refine (live9_any _ (HT.out.keeps K.out)).mono ?_
    rintro e wz ⟨rfl, kz⟩
    go_wp2
    go_ret
    exact ⟨rfl, K.out.trans kz⟩
  have hkf : kh = false := by simpa using hkh
  subst hkf
  clear hkh
  cases ok
  · go_wp2_with fail
    refine (live9_any _ (HT.out.keeps K.out)).mono ?_
    rintro e wz ⟨rfl, kz⟩
    go_wp2
    go_ret
    exact ⟨rfl, K.out.trans kz⟩
  replace HB := hide (HB.out rfl rfl rfl)
  clear b1 b2 b3 b4
  go_upto_region 12 with fail
  clear b0
  obtain ⟨b0, b1, b2, b3, b4, _, _, _, _, _, _⟩ := BR.out.cell5
  clear BK
  go_wp2_with (at_builtin; refine wpList_appR 37 23 5 56 (recV noRec) _ Tryd.underlying23 Tryd.infoRR rfl (by decide) rfl _ _ rfl W4.heap.size _ _ rfl (OwnsR.nil _ _ _ _) _ _ (recL8 ⟨rn, rt, rc, rl, rd⟩) rfl rfl ?c0 ?c1 ?c2 ?c3 ?c4 ?_)
  case c0 => exact recL8_one _
  case c1 =>
    intro j u hu
    have := cells_box W4 #[.string rn, .int .i64 rt, .int .i64 rc, .int .i64 rl, .string rd] 37 j u hu
    simpa using this
  case c2 => simp; unfold maxLen; omega
  case c3 => simp
  case c4 => simp
  intro v5 w5 hown5 hb5 _
  have k5 : Keeps W4 w5 := Below.trans ((Keeps.refl W4).alloc (.cells #[.string rn, .int .i64 rt, .int .i64 rc, .int .i64 rl, .string rd] 37)) hb5
  have hM4 := B.out.lt
  have hX4 := BX.out.lt
  have hK4 := K.out.size
  replace B := hide (B.out.keeps k5)
  replace BX := hide (BX.out.keeps k5)
  replace K := hide (K.out.trans k5)
  have hs5 := k5.size
  clear hb5 k5 b0 b1 b2 b3 b4 BR
  obtain ⟨_, _, _, rr⟩ := ms_rows9 (HM.out.keeps K.out)
  have hl200 := small_len hsm
  have HRR := hide rr
  clear rr
  obtain ⟨y0, y1, y2, y3, y4, y5, y6⟩ := B.out.six6
  go_upto_region 13 with fail
  go_wp2_with (at_builtin; refine wpList_appRs 37 23 5 56 (recV noRec) _ Tryd.underlying23 Tryd.infoRR rfl (by decide) rfl _ _ rfl W4.heap.size _ _ rfl hown5 _ rfl _ HRR.out ?d0 ?d1 ?d2 ?d3 ?d4 ?_)
  case d0 => intro r hr; rw [List.mem_map] at hr; obtain ⟨x, _, rfl⟩ := hr; rfl
  case d1 => intro r hr; rw [List.mem_map] at hr; obtain ⟨x, _, rfl⟩ := hr; exact recL8_one _
  case d2 => simp; unfold maxLen; omega
  case d3 => simp; omega
  case d4 => exact hs5
  intro v6 w6 hown6 hb6 _
  have k6 : Below W4.heap.size w5 w6 := hb6
  have B6 : Blk w6 M #[.int .i64 m.id, .int .i64 m.bits, .slice aq m.qs.length kq, .slice aa m.an.length ka, .slice an m.ns.length kn, .slice ar m.ar.length kr] 25 := (hb6.block M hM4).trans B.out
  have X6 : Blk w6 G2 #[.bool oh, .int .i64 os, .int .i64 ox, .int .i64 ou, .bool od] 29 := (hb6.block G2 hX4).trans BX.out
  have K6 : Keeps w w6 := Below.trans K.out (Below.mono hb6 hK4)
  replace hown6 : OwnsR w6 W4.heap.size 37 5 v6 (List.map recL8 (⟨rn, rt, rc, rl, rd⟩ :: m.ar)) := hown6
  obtain ⟨a6, c6, hv6⟩ := hown6.form
  rw [List.length_map, List.length_cons] at hv6
  subst hv6
  have B7 : Blk (w6.setCell ⟨M, 5, none⟩ (.slice a6 (m.ar.length + 1) c6)) M #[.int .i64 m.id, .int .i64 m.bits, .slice aq m.qs.length kq, .slice aa m.an.length ka, .slice an m.ns.length kn, .slice a6 (m.ar.length + 1) c6] 25 := by simpa using B6.set 5 (.slice a6 (m.ar.length + 1) c6)
  have R7 := hown6.read.other (hown6.apart hM4) 5 (.slice a6 (m.ar.length + 1) c6)
  have K7 : Keeps w (w6.setCell ⟨M, 5, none⟩ (.slice a6 (m.ar.length + 1) c6)) := Below.setCell K6 hMge _
  have X7 := X6.other (a := ⟨M, 5, none⟩) (by simp; omega) (.slice a6 (m.ar.length + 1) c6)
  obtain ⟨z0, z1, z2, z3, z4, z5, z6⟩ := B6.six6
  have zf := B6.frozen 5
  have M7 : MsAt (w6.setCell ⟨M, 5, none⟩ (.slice a6 (m.ar.length + 1) c6)) (.agg #[.int .i64 m.id, .int .i64 m.bits, .slice aq m.qs.length kq, .slice aa m.an.length ka, .slice an m.ns.length kn, .slice a6 (m.ar.length + 1) c6]) ⟨m.id, m.bits, m.qs, m.an, m.ns, ⟨rn, rt, rc, rl, rd⟩ :: m.ar⟩ := by
    obtain ⟨r1, r2, r3, _⟩ := ms_rows9 (HM.out.keeps K7)
    exact ⟨_, _, _, _, rfl, r1, r2, r3, R7⟩
  have f7 : MsFine ⟨m.id, m.bits, m.qs, m.an, m.ns, ⟨rn, rt, rc, rl, rd⟩ :: m.ar⟩ := by
    refine ⟨hf.1, hf.2.1, hf.2.2.1, ?_, ?_⟩
    · simp only [List.length_cons]; unfold maxLen; omega
    · intro x hx
      rw [List.mem_cons] at hx
      rcases hx with rfl | hx
      · exact HZ.out
      · exact hf.2.2.2.2 x hx
  have HF := hide (Find_any _ _ _ M7 f7)
  rw [HB.out] at HF
  simp only [opV] at HF
  replace B7 := hide B7
  replace X7 := hide X7
  replace K7 := hide K7
  clear B6 X6 K6 R7 M7 f7 HB HZ hown6 hown5 B BX K hb6 k6 HRR y0 y1 y2 y3 y4 y5 y6 HM hf
  go_upto_region 15 with fail
  generalize w6.setCell ⟨M, 5, none⟩ (.slice a6 (m.ar.length + 1) c6) = W7 at *
  clear z0 z1 z2 z3 z4 z5 z6 zf
  obtain ⟨y0, y1, y2, y3, y4, y5, y6⟩ := B7.out.six6
  go_wp2_with fail
  refine HF.out.mono ?_
  rintro e w8 ⟨rfl, k1⟩
  replace X7 := hide (X7.out.keeps k1)
  replace K7 := hide (K7.out.trans k1)
  clear k1 HF y0 y1 y2 y3 y4 y5 y6 B7
  go_upto_region 16 with fail
  have k1 := (Keeps.refl w8).alloc (.cells #[.bool oh, .int .i64 os, .int .i64 ox, .int .i64 ou, .bool od] 29)
  have BY := hide (Blk.made w8 #[.bool oh, .int .i64 os, .int .i64 ox, .int .i64 ou, .bool od] 29)
  replace X7 := hide (X7.out.keeps k1)
  replace K7 := hide (K7.out.trans k1)
  clear k1
  generalize w8.alloc (.cells #[.bool oh, .int .i64 os, .int .i64 ox, .int .i64 ou, .bool od] 29) = W8 at *
  generalize w8.heap.size = G8 at *
  obtain ⟨a0, a1, a2, a3, a4, _, _, _, _, _, _⟩ := X7.out.cell5
  obtain ⟨b0, b1, b2, b3, b4, _, _, _, _, _, _⟩ := BY.out.cell5
  go_wp2_with fail
  refine (live9_any _ (HT.out.keeps K7.out)).mono ?_
  rintro e wz ⟨rfl, kz⟩
  go_wp2
  go_ret
  exact ⟨rfl, K7.out.trans kz⟩
end Go.Proofs.YtojihkejlmggcaaDoor
