/- NegCovers answers true, for every input: the walk. -/
import Derived.Test.YtedcjkfiljjpiaaLNegA
import Derived.Test.YtedcjkfiljjpiaaNgX
import Derived.Test.YtedcjkfiljjpiaaKeysA
import Derived.Deep.RegionHeld3
namespace Go.Proofs.Ytedcjkfiljjpiaa
open Go.RowKit

set_option maxHeartbeats 8000000 in
set_option maxRecDepth 100000 in
theorem key15_any (z : Op15) (nx : Bool) (da : Option Addr) (dc : Nat) (w : World) :
    Calls Try.prog 26 #[.agg #[.int .i64 z.d, .int .i64 z.now, .string z.key.n, .int .i64 z.key.t, .int .i64 z.key.c, .bool nx, .string z.soa.key.n, .int .i64 z.soa.key.t, .int .i64 z.soa.key.c, .slice da z.soa.ds.length dc, .int .i64 z.soa.ttl]] w fun e w' => e = .returned (.agg #[.string (Ng.kq z.key nx).n, .int .i64 (Ng.kq z.key nx).t, .int .i64 (Ng.kq z.key nx).c]) ∧ Keeps w w' := by
  have B := hide ((Blk.made w #[.int .i64 z.d, .int .i64 z.now, .string z.key.n, .int .i64 z.key.t, .int .i64 z.key.c, .bool nx, .string z.soa.key.n, .int .i64 z.soa.key.t, .int .i64 z.soa.key.c, .slice da z.soa.ds.length dc, .int .i64 z.soa.ttl] 37).alloc (.cells #[.string ⟨#[]⟩, .int .i64 0, .int .i64 0] 32))
  have R := Blk.made (w.alloc (.cells #[.int .i64 z.d, .int .i64 z.now, .string z.key.n, .int .i64 z.key.t, .int .i64 z.key.c, .bool nx, .string z.soa.key.n, .int .i64 z.soa.key.t, .int .i64 z.soa.key.c, .slice da z.soa.ds.length dc, .int .i64 z.soa.ttl] 37)) #[.string ⟨#[]⟩, .int .i64 0, .int .i64 0] 32
  rw [size_allocG] at R
  replace R := hide R
  have K := hide (((Keeps.refl w).alloc (.cells #[.int .i64 z.d, .int .i64 z.now, .string z.key.n, .int .i64 z.key.t, .int .i64 z.key.c, .bool nx, .string z.soa.key.n, .int .i64 z.soa.key.t, .int .i64 z.soa.key.c, .slice da z.soa.ds.length dc, .int .i64 z.soa.ttl] 37)).alloc (.cells #[.string ⟨#[]⟩, .int .i64 0, .int .i64 0] 32))
  go_enter Try.func26, Try.ntmps26
  go_upto_region 1 with fail
  generalize (w.alloc (.cells #[.int .i64 z.d, .int .i64 z.now, .string z.key.n, .int .i64 z.key.t, .int .i64 z.key.c, .bool nx, .string z.soa.key.n, .int .i64 z.soa.key.t, .int .i64 z.soa.key.c, .slice da z.soa.ds.length dc, .int .i64 z.soa.ttl] 37)).alloc (.cells #[.string ⟨#[]⟩, .int .i64 0, .int .i64 0] 32) = W at *
  have hle : Hid (w.heap.size ≤ w.heap.size + 1) := Nat.le_succ _
  generalize w.heap.size + 1 = G at *
  generalize hF : w.heap.size = F at B ⊢
  replace hF := hide hF
  obtain ⟨b0, b1, b2, b3, b4, b5, b6, b7, b8, b9, b10⟩ := B.out.eleven
  obtain ⟨⟨r0, r1, r2⟩, ⟨f0, f1, f2⟩, _⟩ := R.out.three
  clear B
  cases nx
  · have Y := hide (((R.out.set 0 (.string z.key.n)).set 1 (.int .i64 z.key.t)).set 2 (.int .i64 z.key.c))
    simp at Y
    have K9 := hide (((K.out.setC ⟨G, 0, none⟩ hle.out (.string z.key.n)).setC ⟨G, 1, none⟩ hle.out (.int .i64 z.key.t)).setC ⟨G, 2, none⟩ hle.out (.int .i64 z.key.c))
    go_wp2_with fail
    generalize ((W.setCell ⟨G, 0, none⟩ (.string z.key.n)).setCell ⟨G, 1, none⟩ (.int .i64 z.key.t)).setCell ⟨G, 2, none⟩ (.int .i64 z.key.c) = W9 at *
    obtain ⟨s0, s1, s2⟩ := Y.out.three.1
    exact bodyPost_ret (v := .agg #[.string z.key.n, .int .i64 z.key.t, .int .i64 z.key.c]) (by simp [results, Try.results26, go_sem, s0, s1, s2]) rfl ⟨rfl, K9.out⟩
  · have Y := hide (((R.out.set 0 (.string z.key.n)).set 1 (.int .i64 0)).set 2 (.int .i64 z.key.c))
    simp at Y
    have K9 := hide (((K.out.setC ⟨G, 0, none⟩ hle.out (.string z.key.n)).setC ⟨G, 1, none⟩ hle.out (.int .i64 0)).setC ⟨G, 2, none⟩ hle.out (.int .i64 z.key.c))
    go_wp2_with fail
    generalize ((W.setCell ⟨G, 0, none⟩ (.string z.key.n)).setCell ⟨G, 1, none⟩ (.int .i64 0)).setCell ⟨G, 2, none⟩ (.int .i64 z.key.c) = W9 at *
    obtain ⟨s0, s1, s2⟩ := Y.out.three.1
    exact bodyPost_ret (v := .agg #[.string z.key.n, .int .i64 0, .int .i64 z.key.c]) (by simp [results, Try.results26, go_sem, s0, s1, s2]) rfl ⟨rfl, K9.out⟩

set_option maxHeartbeats 32000000 in
set_option maxRecDepth 100000 in
theorem NegCovers_yes (HLV : ∀ w, Calls Try.prog 9 #[] w fun e w' => e = .returned (.bool true) ∧ Keeps w w') (room : Int) (zs : List (Op15 × Value)) (va : Option Addr) (vc : Nat) (kind : Int) (w : World) (hv : Ops15At w (.slice va zs.length vc) zs) (hkind : -9223372036854775808 ≤ kind ∧ kind ≤ 9223372036854775807) (h60 : (zs.length : Int) ≤ 60) (hds : ∀ z ∈ zs, z.1.soa.ds.length ≤ 1000000) (x0 : ¬ room < 1) (x1 : ¬ 1000 < room) (hsm : small15 zs 60 = true) :
    Calls Try.prog 4 #[.int .i64 room, .slice va zs.length vc, .int .i64 kind] w fun e w' => e = .returned (.bool true) ∧ Keeps w w' := by
  have HSM := hide (small15_any _ zs 60 w hv)
  rw [hsm] at HSM
  obtain ⟨hrd, hall, hlen⟩ := hv
  have RD := hide hrd
  have HALL := hide hall
  have HDS := hide hds
  have HL := hide HLV
  have HK := hide hkind
  clear hrd hall hlen hds hsm hkind HLV
  go_enter Try.func4, Try.ntmps4
  go_wp2_with fail
  refine (HSM.out).mono ?_
  rintro e w1 ⟨rfl, k1⟩
  have K := hide k1
  clear k1 HSM
  go_wp2_with fail
  refine (NewN_yes room _ (by omega) (by omega)).mono ?_
  intro e w2 hE
  obtain ⟨p, m, rfl, hp, hm, hS, k2⟩ := hE
  have hpw : Hid (w.heap.size ≤ p ∧ w.heap.size ≤ m) := by have := K.out.size; rw [Hid]; omega
  have S := hide hS
  replace K := hide (K.out.trans k2)
  have hroom : Hid (1 ≤ room ∧ room ≤ 1000) := ⟨by omega, by omega⟩
  clear hS k2 hp hm x0 x1
  go_wp2_with fail
  go_loopw [8] (fun i wr => ∃ (j : Nat) (s : Ngs), j ≤ zs.length ∧ i = .int .i64 j ∧ Hid (NAt wr p m s) ∧ Hid (s.changes ≤ j) ∧ Hid (Ng.Inv s) ∧ Hid (s.room = room) ∧ Hid (Keeps w wr)) (fun i _ => zs.length - (intOf i).toNat)
  case atStart => exact ⟨0, _, by omega, rfl, S, by simp [Hid], Ng.inv_nil _, hide rfl, K⟩
  case round =>
    clear S K
    obtain ⟨j, s, hj, rfl, S, HC, HI, HRM, K⟩ := hrel
    by_cases hlt : j < zs.length
    · have i2 : (j : Int) < (zs.length : Int) := by omega
      have i0 : (0 : Int) ≤ (j : Int) := by omega
      have hv2 := RD.out.keeps K.out
      obtain ⟨b, off, rfl, hbl, _⟩ := RD.out.parts (by rw [List.length_map]; omega)
      obtain ⟨c0, c1, c2, c3, c4, c5, c6, c7, c8, c9, c10⟩ := row11 hv2 hlt
      obtain ⟨⟨hf0, hf1, hf2, _, _⟩, hdr⟩ := HALL.out _ (List.getElem_mem hlt)
      have hd6 := HDS.out _ (List.getElem_mem hlt)
      generalize hoo : off + j * 11 = o at *
      generalize zs[j] = z at *
      obtain ⟨z, zd⟩ := z
      obtain ⟨da, dc, hzd⟩ := hdr.len
      simp only at hzd hd6 hf0 hf1 hf2 hdr
      subst hzd
      simp only at c0 c1 c2 c3 c4 c5 c6 c7 c8 c9 c10
      have O := hide (Blk.made wr #[.int .i64 z.d, .int .i64 z.now, .string z.key.n, .int .i64 z.key.t, .int .i64 z.key.c, .bool z.nx, .string z.soa.key.n, .int .i64 z.soa.key.t, .int .i64 z.soa.key.c, .slice da z.soa.ds.length dc, .int .i64 z.soa.ttl] 37)
      have kA := (Keeps.refl wr).alloc (.cells #[.int .i64 z.d, .int .i64 z.now, .string z.key.n, .int .i64 z.key.t, .int .i64 z.key.c, .bool z.nx, .string z.soa.key.n, .int .i64 z.soa.key.t, .int .i64 z.soa.key.c, .slice da z.soa.ds.length dc, .int .i64 z.soa.ttl] 37)
      have hOp : Hid (wr.heap.size ≠ p ∧ wr.heap.size ≠ m) := by have := S.out.lt; rw [Hid]; omega
      replace S := hide (S.out.keeps kA)
      replace K := hide (K.out.trans kA)
      have HDR := hide hdr
      have hqz := hide hf0
      clear kA hv2
      go_upto_region 10 with fail
      generalize wr.alloc (.cells #[.int .i64 z.d, .int .i64 z.now, .string z.key.n, .int .i64 z.key.t, .int .i64 z.key.c, .bool z.nx, .string z.soa.key.n, .int .i64 z.soa.key.t, .int .i64 z.soa.key.c, .slice da z.soa.ds.length dc, .int .i64 z.soa.ttl] 37) = W3 at *
      generalize wr.heap.size = OB at *
      clear c0 c1 c2 c3 c4 c5 c6 c7 c8 c9 c10
      obtain ⟨o0, o1, o2, o3, o4, o5, o6, o7, o8, o9, o10⟩ := O.out.eleven
      have hPUT := hide (PutN_any p m s z.now z.key z.nx (.agg #[.string z.soa.key.n, .int .i64 z.soa.key.t, .int .i64 z.soa.key.c, .slice da z.soa.ds.length dc, .int .i64 z.soa.ttl]) z.soa W3 ⟨_, rfl, HDR.out.keeps K.out⟩ hf1 hf0 S.out hf2 hd6 (by have := HC.out; omega))
      have hcov := hide (fun h => Ng.covers S.out.ok HI.out (now := z.now) (q := z.key) (nx := z.nx) (x := z.soa) h)
      have hI2 := hide (Ng.inv_put HI.out z.now z.key z.nx z.soa)
      have hc2 := hide (Ng.changes_put s z.now z.key z.nx z.soa)
      have hnowb : Hid (Ng.putE z.now z.key z.soa = 0 → 0 ≤ z.now ∧ z.now ≤ 1099511627776) := fun h => by
        have := (Ng.putE_good h).1.1
        unfold Ag.isT at this
        simpa using this
      have hmb := hide (Ng.minN_in z.soa)
      have HMIN := hide (fun W (k : Keeps w W) => Minimum_any (.agg #[.string z.soa.key.n, .int .i64 z.soa.key.t, .int .i64 z.soa.key.c, .slice da z.soa.ds.length dc, .int .i64 z.soa.ttl]) z.soa W ⟨_, rfl, HDR.out.keeps k⟩ hf1)
      generalize Ng.putE z.now z.key z.soa = c at *
      generalize Ng.put s z.now z.key z.nx z.soa = s2 at *
      generalize Ng.minN z.soa = MN at *
      generalize Ng.minOk z.soa = MO at *
      clear hf0 hf1 hf2 hd6 hdr
      go_wp2_with fail
      refine (hPUT.out).mono ?_
      intro e w4 hE
      obtain ⟨rfl, hS, kb⟩ := hE
      have HR2 : Hid (s2.room = room) := by rw [Hid, hc2.out.2]; exact HRM.out
      have HC2 : Hid (s2.changes ≤ ((j + 1 : Nat) : Int)) := by have h1 := HC.out; have h2 := hc2.out.1; rw [Hid]; omega
      replace O := hide (O.out.kb hOp.out.1 hOp.out.2 kb)
      replace K := hide (show Keeps w w4 from Below.trans K.out (kb.below hpw.out.1 hpw.out.2 K.out.size))
      replace S := hide hS
      clear hPUT hS kb hc2 HC HI HRM o0 o1 o2 o3 o4 o5 o6 o7 o8 o9 o10
      by_cases hz : ¬ c = 0
      · clear hcov hnowb HMIN
        go_wp2_with fail
        go_roundw
        case rel => exact ⟨j + 1, s2, by omega, by go_num, S, HC2, hI2, HR2, K⟩
        case measure => simp [intOf]; omega
      replace hz : c = 0 := by omega
      subst hz
      obtain ⟨g1, g2, ⟨y, g3, g4⟩, g5⟩ := hcov.out rfl
      subst g1
      replace g4 := hide g4
      replace g5 := hide g5
      replace g3 := hide g3
      have hnb := hnowb.out rfl
      have hmb' := hmb.out
      have hwm : IntKind.i64.wrap (z.now + MN) = z.now + MN := by rw [IntKind.wrap_i64]; omega
      have hm1 : decide (MN < 1) = false := decide_eq_false (by omega)
      replace hnb := hide hnb
      clear hcov hnowb g2 hmb'
      obtain ⟨o0, o1, o2, o3, o4, o5, o6, o7, o8, o9, o10⟩ := O.out.eleven
      go_wp2_with fail
      refine (HMIN.out _ K.out).mono ?_
      rintro e w5 ⟨rfl, k1⟩
      replace O := hide (O.out.keeps k1)
      replace S := hide (S.out.keeps k1)
      replace K := hide (K.out.trans k1)
      clear k1 HMIN o0 o1 o2 o3 o4 o5 o6 o7 o8 o9 o10
      obtain ⟨o0, o1, o2, o3, o4, o5, o6, o7, o8, o9, o10⟩ := O.out.eleven
      go_wp2_with fail
      refine (Find_any p m s2 z.now z.key _ S.out hqz.out).mono ?_
      intro e w6 hE
      obtain ⟨vi, rfl, ht, k1⟩ := hE
      rw [g3.out] at ht ⊢
      obtain ⟨vd, rfl, ho⟩ := ht
      obtain ⟨ya, yc, rfl⟩ := ho.form
      generalize (List.map tv y.soa.ds).length = yl at *
      have k2 := k1.alloc (.cells #[.string y.key.n, .int .i64 y.key.t, .int .i64 y.key.c, .bool y.nx, .string y.soa.key.n, .int .i64 y.soa.key.t, .int .i64 y.soa.key.c, .slice ya yl yc, .int .i64 y.soa.ttl, .int .i64 y.u] 48)
      have Y := hide (Blk.made w6 #[.string y.key.n, .int .i64 y.key.t, .int .i64 y.key.c, .bool y.nx, .string y.soa.key.n, .int .i64 y.soa.key.t, .int .i64 y.soa.key.c, .slice ya yl yc, .int .i64 y.soa.ttl, .int .i64 y.u] 48)
      replace O := hide (O.out.keeps k2)
      replace S := hide (S.out.keeps k2)
      replace K := hide (K.out.trans k2)
      clear k1 k2 ho g3 o0 o1 o2 o3 o4 o5 o6 o7 o8 o9 o10
      unfold niV
      simp only [Option.isSome]
      go_upto_region 13 with fail
      generalize w6.alloc (.cells #[.string y.key.n, .int .i64 y.key.t, .int .i64 y.key.c, .bool y.nx, .string y.soa.key.n, .int .i64 y.soa.key.t, .int .i64 y.soa.key.c, .slice ya yl yc, .int .i64 y.soa.ttl, .int .i64 y.u] 48) = W6 at *
      generalize w6.heap.size = yb at *
      generalize hnx : z.nx = nx at *
      replace hnx := hide hnx
      obtain ⟨y0, y1, y2, y3, y4, y5, y6, y7, y8, y9⟩ := Y.out.ten.1
      obtain ⟨o0, o1, o2, o3, o4, o5, o6, o7, o8, o9, o10⟩ := O.out.eleven
      by_cases hgt : z.now + MN < y.u
      · have hgt' : decide (z.now + MN < y.u) = true := decide_eq_true hgt
        have hky : Hid (¬ y.key = Ng.kq z.key nx) := fun h => by have := g4.out h; omega
        cases hb : ((y.key.t == 0) == nx)
        · clear hky
          go_quiet (fail)
          have kD0 := fun nn => (Keeps.refl W6).drewN nn
          generalize hWD : W6.drewN _ = WD at *
          have kD := hide (show Keeps W6 WD by rw [← hWD]; exact kD0 _)
          clear kD0 hWD
          replace O := hide (O.out.keeps kD.out)
          replace S := hide (S.out.keeps kD.out)
          replace K := hide (K.out.trans kD.out)
          clear kD hgt hgt' hb Y y0 y1 y2 y3 y4 y5 y6 y7 y8 y9 o0 o1 o2 o3 o4 o5 o6 o7 o8 o9 o10
          go_upto_region 15 with fail
          obtain ⟨o0, o1, o2, o3, o4, o5, o6, o7, o8, o9, o10⟩ := O.out.eleven
          have g5' := g5
          clear g5 g4
          cases nx
          · clear o0 o1 o2 o3 o4 o6 o7 o8 o9 o10 g5'
            go_wp2_with fail
            refine (KeysN_any p m s2 _ S.out).mono ?_
            intro e v1 hE
            obtain ⟨vk, rfl, ok, k1⟩ := hE
            obtain ⟨ka, kc, rfl⟩ := ok.form
            rw [List.length_map]
            have hkl : ¬ room < ((Ng.keys s2).length : Int) := by have h1 := S.out.ok.len; have h2 : (Ng.keys s2).length = s2.items.length := Ng.keysL_len _; have h3 := HR2.out; omega
            replace S := hide (S.out.keeps k1)
            replace K := hide (K.out.trans k1)
            clear k1 ok
            go_wp2_with fail
            refine (KeysN_any p m s2 _ S.out).mono ?_
            intro e v2 hE
            obtain ⟨vk2, rfl, ok2, k1⟩ := hE
            have RK := hide ok2.read
            replace S := hide (S.out.keeps k1)
            replace K := hide (K.out.trans k1)
            have hkz := hide (keysN_small S.out.ok)
            have hndp := hide S.out.ok.nodup
            clear k1 ok2
            go_wp2_with fail
            refine (Apart13_any vk2 (Ng.keys s2) _ RK.out (by have := hkz.out; omega)).mono ?_
            rintro e v3 ⟨rfl, k1⟩
            rw [decide_eq_true hndp.out]
            replace S := hide (S.out.keeps k1)
            replace K := hide (K.out.trans k1)
            clear k1 RK
            go_wp2_with fail
            go_roundw
            case rel => exact ⟨j + 1, s2, by omega, by go_num, S, HC2, hI2, HR2, K⟩
            case measure => simp [intOf]; omega
          · obtain ⟨u, e1, e2, e3⟩ := g5'.out rfl kind
            replace e1 := hide e1
            replace e2 := hide e2
            replace e3 := hide e3
            have Q := hide (Blk.made WD #[.string z.key.n, .int .i64 z.key.t, .int .i64 z.key.c] 32)
            have kA := hide ((Keeps.refl WD).alloc (.cells #[.string z.key.n, .int .i64 z.key.t, .int .i64 z.key.c] 32))
            have O1 := hide (O.out.keeps kA.out)
            go_upto_region 17 with fail
            generalize WD.alloc (.cells #[.string z.key.n, .int .i64 z.key.t, .int .i64 z.key.c] 32) = V1 at *
            have hQe : Hid (WD.heap.size ≤ WD.heap.size) := Nat.le_refl _
            have kB := hide (kA.out.setC ⟨WD.heap.size, 1, none⟩ hQe.out (.int .i64 kind))
            have hQO : Hid (OB ≠ WD.heap.size) := Nat.ne_of_lt O.out.lt
            generalize hQB : WD.heap.size = QB at Q kB hQO ⊢
            replace hQB := hide hQB
            clear o0 o1 o2 o3 o4 o5 o6 o7 o8 o9 o10 g5'
            obtain ⟨⟨q0, q1, q2⟩, ⟨_, qf, _⟩, _⟩ := Q.out.three
            go_upto_region 18 with fail
            replace Q := hide (show Blk (V1.setCell ⟨QB, 1, none⟩ (.int .i64 kind)) QB #[.string z.key.n, .int .i64 kind, .int .i64 z.key.c] 32 by have := Q.out.set 1 (.int .i64 kind); simpa using this)
            replace O := hide (O1.out.other (a := ⟨QB, 1, none⟩) (fun e => hQO.out e.symm) (.int .i64 kind))
            replace S := hide (S.out.keeps kB.out)
            replace K := hide (K.out.trans kB.out)
            generalize V1.setCell ⟨QB, 1, none⟩ (.int .i64 kind) = V2 at *
            clear q0 q1 q2 qf kA kB O1
            obtain ⟨q0, q1, q2⟩ := Q.out.three.1
            obtain ⟨o0, o1, o2, o3, o4, o5, o6, o7, o8, o9, o10⟩ := O.out.eleven
            go_wp2_with fail
            refine (Find_any p m s2 z.now ⟨z.key.n, kind, z.key.c⟩ _ S.out ⟨hqz.out.1, HK.out, hqz.out.2.2⟩).mono ?_
            intro e v6 hE
            obtain ⟨vi, rfl, ht, k1⟩ := hE
            rw [e1.out] at ht ⊢
            obtain ⟨vd, rfl, ho⟩ := ht
            obtain ⟨ua, uc, rfl⟩ := ho.form
            generalize (List.map tv u.soa.ds).length = ul at *
            have k2 := k1.alloc (.cells #[.string u.key.n, .int .i64 u.key.t, .int .i64 u.key.c, .bool u.nx, .string u.soa.key.n, .int .i64 u.soa.key.t, .int .i64 u.soa.key.c, .slice ua ul uc, .int .i64 u.soa.ttl, .int .i64 u.u] 48)
            have U := hide (Blk.made v6 #[.string u.key.n, .int .i64 u.key.t, .int .i64 u.key.c, .bool u.nx, .string u.soa.key.n, .int .i64 u.soa.key.t, .int .i64 u.soa.key.c, .slice ua ul uc, .int .i64 u.soa.ttl, .int .i64 u.u] 48)
            replace S := hide (S.out.keeps k2)
            replace K := hide (K.out.trans k2)
            clear k1 k2 ho e1 q0 q1 q2 o0 o1 o2 o3 o4 o5 o6 o7 o8 o9 o10 O Q
            unfold niV
            simp only [Option.isSome]
            go_upto_region 19 with fail
            generalize v6.alloc (.cells #[.string u.key.n, .int .i64 u.key.t, .int .i64 u.key.c, .bool u.nx, .string u.soa.key.n, .int .i64 u.soa.key.t, .int .i64 u.soa.key.c, .slice ua ul uc, .int .i64 u.soa.ttl, .int .i64 u.u] 48) = V6 at *
            generalize v6.heap.size = ub at *
            obtain ⟨u0, u1, u2, u3, u4, u5, u6, u7, u8, u9⟩ := U.out.ten.1
            rw [e2.out] at u3
            rw [e3.out] at u1
            clear e2 e3
            go_wp2_with fail
            refine (KeysN_any p m s2 _ S.out).mono ?_
            intro e v1 hE
            obtain ⟨vk, rfl, ok, k1⟩ := hE
            obtain ⟨ka, kc, rfl⟩ := ok.form
            rw [List.length_map]
            have hkl : ¬ room < ((Ng.keys s2).length : Int) := by have h1 := S.out.ok.len; have h2 : (Ng.keys s2).length = s2.items.length := Ng.keysL_len _; have h3 := HR2.out; omega
            replace S := hide (S.out.keeps k1)
            replace K := hide (K.out.trans k1)
            clear k1 ok
            go_wp2_with fail
            refine (KeysN_any p m s2 _ S.out).mono ?_
            intro e v2 hE
            obtain ⟨vk2, rfl, ok2, k1⟩ := hE
            have RK := hide ok2.read
            replace S := hide (S.out.keeps k1)
            replace K := hide (K.out.trans k1)
            have hkz := hide (keysN_small S.out.ok)
            have hndp := hide S.out.ok.nodup
            clear k1 ok2
            go_wp2_with fail
            refine (Apart13_any vk2 (Ng.keys s2) _ RK.out (by have := hkz.out; omega)).mono ?_
            rintro e v3 ⟨rfl, k1⟩
            rw [decide_eq_true hndp.out]
            replace S := hide (S.out.keeps k1)
            replace K := hide (K.out.trans k1)
            clear k1 RK
            go_wp2_with fail
            go_roundw
            case rel => exact ⟨j + 1, s2, by omega, by go_num, S, HC2, hI2, HR2, K⟩
            case measure => simp [intOf]; omega
        · have HKEY := hide (fun W => key15_any z nx da dc W)
          have rn := eql_qn y.key (Ng.kq z.key nx)
          rw [decide_eq_false hky.out] at rn
          generalize Ng.kq z.key nx = kk at *
          clear hky
          have HT : Hid (∀ w', Keeps W6 w' → (w'.cell? ⟨yb, 0, none⟩ = some (.string y.key.n) ∧ w'.cell? ⟨yb, 1, none⟩ = some (.int .i64 y.key.t) ∧ w'.cell? ⟨yb, 2, none⟩ = some (.int .i64 y.key.c) ∧ w'.cell? ⟨yb, 9, none⟩ = some (.int .i64 y.u)) ∧ (w'.cell? ⟨OB, 0, none⟩ = some (.int .i64 z.d) ∧ w'.cell? ⟨OB, 1, none⟩ = some (.int .i64 z.now) ∧ w'.cell? ⟨OB, 2, none⟩ = some (.string z.key.n) ∧ w'.cell? ⟨OB, 3, none⟩ = some (.int .i64 z.key.t) ∧ w'.cell? ⟨OB, 4, none⟩ = some (.int .i64 z.key.c) ∧ w'.cell? ⟨OB, 5, none⟩ = some (.bool nx) ∧ w'.cell? ⟨OB, 6, none⟩ = some (.string z.soa.key.n) ∧ w'.cell? ⟨OB, 7, none⟩ = some (.int .i64 z.soa.key.t) ∧ w'.cell? ⟨OB, 8, none⟩ = some (.int .i64 z.soa.key.c) ∧ w'.cell? ⟨OB, 9, none⟩ = some (.slice da z.soa.ds.length dc) ∧ w'.cell? ⟨OB, 10, none⟩ = some (.int .i64 z.soa.ttl))) := fun w' k => ⟨⟨(Y.out.keeps k).cell 0, (Y.out.keeps k).cell 1, (Y.out.keeps k).cell 2, (Y.out.keeps k).cell 9⟩, (O.out.keeps k).eleven⟩
          have T := HT.out _ (Keeps.refl W6).drew
          have KK : Keeps W6 W6.drew := (Keeps.refl W6).drew
          clear y0 y1 y2 y3 y4 y5 y6 y7 y8 y9 o0 o1 o2 o3 o4 o5 o6 o7 o8 o9 o10
          go_region_held3 (fun w' => (w'.cell? ⟨yb, 0, none⟩ = some (.string y.key.n) ∧ w'.cell? ⟨yb, 1, none⟩ = some (.int .i64 y.key.t) ∧ w'.cell? ⟨yb, 2, none⟩ = some (.int .i64 y.key.c) ∧ w'.cell? ⟨yb, 9, none⟩ = some (.int .i64 y.u)) ∧ (w'.cell? ⟨OB, 0, none⟩ = some (.int .i64 z.d) ∧ w'.cell? ⟨OB, 1, none⟩ = some (.int .i64 z.now) ∧ w'.cell? ⟨OB, 2, none⟩ = some (.string z.key.n) ∧ w'.cell? ⟨OB, 3, none⟩ = some (.int .i64 z.key.t) ∧ w'.cell? ⟨OB, 4, none⟩ = some (.int .i64 z.key.c) ∧ w'.cell? ⟨OB, 5, none⟩ = some (.bool nx) ∧ w'.cell? ⟨OB, 6, none⟩ = some (.string z.soa.key.n) ∧ w'.cell? ⟨OB, 7, none⟩ = some (.int .i64 z.soa.key.t) ∧ w'.cell? ⟨OB, 8, none⟩ = some (.int .i64 z.soa.key.c) ∧ w'.cell? ⟨OB, 9, none⟩ = some (.slice da z.soa.ds.length dc) ∧ w'.cell? ⟨OB, 10, none⟩ = some (.int .i64 z.soa.ttl))) (exact T) ((go_at_call 26; refine (HKEY.out _).mono ?_; rintro e w7 ⟨rfl, k5⟩; replace KK := Keeps.trans KK k5; replace T := HT.out _ KK; clear k5))
          replace O := hide (O.out.keeps KK)
          replace S := hide (S.out.keeps KK)
          replace K := hide (K.out.trans KK)
          clear KK T HT HKEY rn hgt hgt' hb Y
          go_upto_region 15 with fail
          obtain ⟨o0, o1, o2, o3, o4, o5, o6, o7, o8, o9, o10⟩ := O.out.eleven
          have g5' := g5
          clear g5 g4
          cases nx
          · clear o0 o1 o2 o3 o4 o6 o7 o8 o9 o10 g5'
            go_wp2_with fail
            refine (KeysN_any p m s2 _ S.out).mono ?_
            intro e v1 hE
            obtain ⟨vk, rfl, ok, k1⟩ := hE
            obtain ⟨ka, kc, rfl⟩ := ok.form
            rw [List.length_map]
            have hkl : ¬ room < ((Ng.keys s2).length : Int) := by have h1 := S.out.ok.len; have h2 : (Ng.keys s2).length = s2.items.length := Ng.keysL_len _; have h3 := HR2.out; omega
            replace S := hide (S.out.keeps k1)
            replace K := hide (K.out.trans k1)
            clear k1 ok
            go_wp2_with fail
            refine (KeysN_any p m s2 _ S.out).mono ?_
            intro e v2 hE
            obtain ⟨vk2, rfl, ok2, k1⟩ := hE
            have RK := hide ok2.read
            replace S := hide (S.out.keeps k1)
            replace K := hide (K.out.trans k1)
            have hkz := hide (keysN_small S.out.ok)
            have hndp := hide S.out.ok.nodup
            clear k1 ok2
            go_wp2_with fail
            refine (Apart13_any vk2 (Ng.keys s2) _ RK.out (by have := hkz.out; omega)).mono ?_
            rintro e v3 ⟨rfl, k1⟩
            rw [decide_eq_true hndp.out]
            replace S := hide (S.out.keeps k1)
            replace K := hide (K.out.trans k1)
            clear k1 RK
            go_wp2_with fail
            go_roundw
            case rel => exact ⟨j + 1, s2, by omega, by go_num, S, HC2, hI2, HR2, K⟩
            case measure => simp [intOf]; omega
          · obtain ⟨u, e1, e2, e3⟩ := g5'.out rfl kind
            replace e1 := hide e1
            replace e2 := hide e2
            replace e3 := hide e3
            have Q := hide (Blk.made w7 #[.string z.key.n, .int .i64 z.key.t, .int .i64 z.key.c] 32)
            have kA := hide ((Keeps.refl w7).alloc (.cells #[.string z.key.n, .int .i64 z.key.t, .int .i64 z.key.c] 32))
            have O1 := hide (O.out.keeps kA.out)
            go_upto_region 17 with fail
            generalize w7.alloc (.cells #[.string z.key.n, .int .i64 z.key.t, .int .i64 z.key.c] 32) = V1 at *
            have hQe : Hid (w7.heap.size ≤ w7.heap.size) := Nat.le_refl _
            have kB := hide (kA.out.setC ⟨w7.heap.size, 1, none⟩ hQe.out (.int .i64 kind))
            have hQO : Hid (OB ≠ w7.heap.size) := Nat.ne_of_lt O.out.lt
            generalize hQB : w7.heap.size = QB at Q kB hQO ⊢
            replace hQB := hide hQB
            clear o0 o1 o2 o3 o4 o5 o6 o7 o8 o9 o10 g5'
            obtain ⟨⟨q0, q1, q2⟩, ⟨_, qf, _⟩, _⟩ := Q.out.three
            go_upto_region 18 with fail
            replace Q := hide (show Blk (V1.setCell ⟨QB, 1, none⟩ (.int .i64 kind)) QB #[.string z.key.n, .int .i64 kind, .int .i64 z.key.c] 32 by have := Q.out.set 1 (.int .i64 kind); simpa using this)
            replace O := hide (O1.out.other (a := ⟨QB, 1, none⟩) (fun e => hQO.out e.symm) (.int .i64 kind))
            replace S := hide (S.out.keeps kB.out)
            replace K := hide (K.out.trans kB.out)
            generalize V1.setCell ⟨QB, 1, none⟩ (.int .i64 kind) = V2 at *
            clear q0 q1 q2 qf kA kB O1
            obtain ⟨q0, q1, q2⟩ := Q.out.three.1
            obtain ⟨o0, o1, o2, o3, o4, o5, o6, o7, o8, o9, o10⟩ := O.out.eleven
            go_wp2_with fail
            refine (Find_any p m s2 z.now ⟨z.key.n, kind, z.key.c⟩ _ S.out ⟨hqz.out.1, HK.out, hqz.out.2.2⟩).mono ?_
            intro e v6 hE
            obtain ⟨vi, rfl, ht, k1⟩ := hE
            rw [e1.out] at ht ⊢
            obtain ⟨vd, rfl, ho⟩ := ht
            obtain ⟨ua, uc, rfl⟩ := ho.form
            generalize (List.map tv u.soa.ds).length = ul at *
            have k2 := k1.alloc (.cells #[.string u.key.n, .int .i64 u.key.t, .int .i64 u.key.c, .bool u.nx, .string u.soa.key.n, .int .i64 u.soa.key.t, .int .i64 u.soa.key.c, .slice ua ul uc, .int .i64 u.soa.ttl, .int .i64 u.u] 48)
            have U := hide (Blk.made v6 #[.string u.key.n, .int .i64 u.key.t, .int .i64 u.key.c, .bool u.nx, .string u.soa.key.n, .int .i64 u.soa.key.t, .int .i64 u.soa.key.c, .slice ua ul uc, .int .i64 u.soa.ttl, .int .i64 u.u] 48)
            replace S := hide (S.out.keeps k2)
            replace K := hide (K.out.trans k2)
            clear k1 k2 ho e1 q0 q1 q2 o0 o1 o2 o3 o4 o5 o6 o7 o8 o9 o10 O Q
            unfold niV
            simp only [Option.isSome]
            go_upto_region 19 with fail
            generalize v6.alloc (.cells #[.string u.key.n, .int .i64 u.key.t, .int .i64 u.key.c, .bool u.nx, .string u.soa.key.n, .int .i64 u.soa.key.t, .int .i64 u.soa.key.c, .slice ua ul uc, .int .i64 u.soa.ttl, .int .i64 u.u] 48) = V6 at *
            generalize v6.heap.size = ub at *
            obtain ⟨u0, u1, u2, u3, u4, u5, u6, u7, u8, u9⟩ := U.out.ten.1
            rw [e2.out] at u3
            rw [e3.out] at u1
            clear e2 e3
            go_wp2_with fail
            refine (KeysN_any p m s2 _ S.out).mono ?_
            intro e v1 hE
            obtain ⟨vk, rfl, ok, k1⟩ := hE
            obtain ⟨ka, kc, rfl⟩ := ok.form
            rw [List.length_map]
            have hkl : ¬ room < ((Ng.keys s2).length : Int) := by have h1 := S.out.ok.len; have h2 : (Ng.keys s2).length = s2.items.length := Ng.keysL_len _; have h3 := HR2.out; omega
            replace S := hide (S.out.keeps k1)
            replace K := hide (K.out.trans k1)
            clear k1 ok
            go_wp2_with fail
            refine (KeysN_any p m s2 _ S.out).mono ?_
            intro e v2 hE
            obtain ⟨vk2, rfl, ok2, k1⟩ := hE
            have RK := hide ok2.read
            replace S := hide (S.out.keeps k1)
            replace K := hide (K.out.trans k1)
            have hkz := hide (keysN_small S.out.ok)
            have hndp := hide S.out.ok.nodup
            clear k1 ok2
            go_wp2_with fail
            refine (Apart13_any vk2 (Ng.keys s2) _ RK.out (by have := hkz.out; omega)).mono ?_
            rintro e v3 ⟨rfl, k1⟩
            rw [decide_eq_true hndp.out]
            replace S := hide (S.out.keeps k1)
            replace K := hide (K.out.trans k1)
            clear k1 RK
            go_wp2_with fail
            go_roundw
            case rel => exact ⟨j + 1, s2, by omega, by go_num, S, HC2, hI2, HR2, K⟩
            case measure => simp [intOf]; omega
      · have hgt' : decide (z.now + MN < y.u) = false := decide_eq_false hgt
        go_quiet (fail)
        have kD0 := fun nn => (Keeps.refl W6).drewN nn
        generalize hWD : W6.drewN _ = WD at *
        have kD := hide (show Keeps W6 WD by rw [← hWD]; exact kD0 _)
        clear kD0 hWD
        replace O := hide (O.out.keeps kD.out)
        replace S := hide (S.out.keeps kD.out)
        replace K := hide (K.out.trans kD.out)
        clear kD hgt hgt' Y y0 y1 y2 y3 y4 y5 y6 y7 y8 y9 o0 o1 o2 o3 o4 o5 o6 o7 o8 o9 o10
        go_upto_region 15 with fail
        obtain ⟨o0, o1, o2, o3, o4, o5, o6, o7, o8, o9, o10⟩ := O.out.eleven
        have g5' := g5
        clear g5 g4
        cases nx
        · clear o0 o1 o2 o3 o4 o6 o7 o8 o9 o10 g5'
          go_wp2_with fail
          refine (KeysN_any p m s2 _ S.out).mono ?_
          intro e v1 hE
          obtain ⟨vk, rfl, ok, k1⟩ := hE
          obtain ⟨ka, kc, rfl⟩ := ok.form
          rw [List.length_map]
          have hkl : ¬ room < ((Ng.keys s2).length : Int) := by have h1 := S.out.ok.len; have h2 : (Ng.keys s2).length = s2.items.length := Ng.keysL_len _; have h3 := HR2.out; omega
          replace S := hide (S.out.keeps k1)
          replace K := hide (K.out.trans k1)
          clear k1 ok
          go_wp2_with fail
          refine (KeysN_any p m s2 _ S.out).mono ?_
          intro e v2 hE
          obtain ⟨vk2, rfl, ok2, k1⟩ := hE
          have RK := hide ok2.read
          replace S := hide (S.out.keeps k1)
          replace K := hide (K.out.trans k1)
          have hkz := hide (keysN_small S.out.ok)
          have hndp := hide S.out.ok.nodup
          clear k1 ok2
          go_wp2_with fail
          refine (Apart13_any vk2 (Ng.keys s2) _ RK.out (by have := hkz.out; omega)).mono ?_
          rintro e v3 ⟨rfl, k1⟩
          rw [decide_eq_true hndp.out]
          replace S := hide (S.out.keeps k1)
          replace K := hide (K.out.trans k1)
          clear k1 RK
          go_wp2_with fail
          go_roundw
          case rel => exact ⟨j + 1, s2, by omega, by go_num, S, HC2, hI2, HR2, K⟩
          case measure => simp [intOf]; omega
        · obtain ⟨u, e1, e2, e3⟩ := g5'.out rfl kind
          replace e1 := hide e1
          replace e2 := hide e2
          replace e3 := hide e3
          have Q := hide (Blk.made WD #[.string z.key.n, .int .i64 z.key.t, .int .i64 z.key.c] 32)
          have kA := hide ((Keeps.refl WD).alloc (.cells #[.string z.key.n, .int .i64 z.key.t, .int .i64 z.key.c] 32))
          have O1 := hide (O.out.keeps kA.out)
          go_upto_region 17 with fail
          generalize WD.alloc (.cells #[.string z.key.n, .int .i64 z.key.t, .int .i64 z.key.c] 32) = V1 at *
          have hQe : Hid (WD.heap.size ≤ WD.heap.size) := Nat.le_refl _
          have kB := hide (kA.out.setC ⟨WD.heap.size, 1, none⟩ hQe.out (.int .i64 kind))
          have hQO : Hid (OB ≠ WD.heap.size) := Nat.ne_of_lt O.out.lt
          generalize hQB : WD.heap.size = QB at Q kB hQO ⊢
          replace hQB := hide hQB
          clear o0 o1 o2 o3 o4 o5 o6 o7 o8 o9 o10 g5'
          obtain ⟨⟨q0, q1, q2⟩, ⟨_, qf, _⟩, _⟩ := Q.out.three
          go_upto_region 18 with fail
          replace Q := hide (show Blk (V1.setCell ⟨QB, 1, none⟩ (.int .i64 kind)) QB #[.string z.key.n, .int .i64 kind, .int .i64 z.key.c] 32 by have := Q.out.set 1 (.int .i64 kind); simpa using this)
          replace O := hide (O1.out.other (a := ⟨QB, 1, none⟩) (fun e => hQO.out e.symm) (.int .i64 kind))
          replace S := hide (S.out.keeps kB.out)
          replace K := hide (K.out.trans kB.out)
          generalize V1.setCell ⟨QB, 1, none⟩ (.int .i64 kind) = V2 at *
          clear q0 q1 q2 qf kA kB O1
          obtain ⟨q0, q1, q2⟩ := Q.out.three.1
          obtain ⟨o0, o1, o2, o3, o4, o5, o6, o7, o8, o9, o10⟩ := O.out.eleven
          go_wp2_with fail
          refine (Find_any p m s2 z.now ⟨z.key.n, kind, z.key.c⟩ _ S.out ⟨hqz.out.1, HK.out, hqz.out.2.2⟩).mono ?_
          intro e v6 hE
          obtain ⟨vi, rfl, ht, k1⟩ := hE
          rw [e1.out] at ht ⊢
          obtain ⟨vd, rfl, ho⟩ := ht
          obtain ⟨ua, uc, rfl⟩ := ho.form
          generalize (List.map tv u.soa.ds).length = ul at *
          have k2 := k1.alloc (.cells #[.string u.key.n, .int .i64 u.key.t, .int .i64 u.key.c, .bool u.nx, .string u.soa.key.n, .int .i64 u.soa.key.t, .int .i64 u.soa.key.c, .slice ua ul uc, .int .i64 u.soa.ttl, .int .i64 u.u] 48)
          have U := hide (Blk.made v6 #[.string u.key.n, .int .i64 u.key.t, .int .i64 u.key.c, .bool u.nx, .string u.soa.key.n, .int .i64 u.soa.key.t, .int .i64 u.soa.key.c, .slice ua ul uc, .int .i64 u.soa.ttl, .int .i64 u.u] 48)
          replace S := hide (S.out.keeps k2)
          replace K := hide (K.out.trans k2)
          clear k1 k2 ho e1 q0 q1 q2 o0 o1 o2 o3 o4 o5 o6 o7 o8 o9 o10 O Q
          unfold niV
          simp only [Option.isSome]
          go_upto_region 19 with fail
          generalize v6.alloc (.cells #[.string u.key.n, .int .i64 u.key.t, .int .i64 u.key.c, .bool u.nx, .string u.soa.key.n, .int .i64 u.soa.key.t, .int .i64 u.soa.key.c, .slice ua ul uc, .int .i64 u.soa.ttl, .int .i64 u.u] 48) = V6 at *
          generalize v6.heap.size = ub at *
          obtain ⟨u0, u1, u2, u3, u4, u5, u6, u7, u8, u9⟩ := U.out.ten.1
          rw [e2.out] at u3
          rw [e3.out] at u1
          clear e2 e3
          go_wp2_with fail
          refine (KeysN_any p m s2 _ S.out).mono ?_
          intro e v1 hE
          obtain ⟨vk, rfl, ok, k1⟩ := hE
          obtain ⟨ka, kc, rfl⟩ := ok.form
          rw [List.length_map]
          have hkl : ¬ room < ((Ng.keys s2).length : Int) := by have h1 := S.out.ok.len; have h2 : (Ng.keys s2).length = s2.items.length := Ng.keysL_len _; have h3 := HR2.out; omega
          replace S := hide (S.out.keeps k1)
          replace K := hide (K.out.trans k1)
          clear k1 ok
          go_wp2_with fail
          refine (KeysN_any p m s2 _ S.out).mono ?_
          intro e v2 hE
          obtain ⟨vk2, rfl, ok2, k1⟩ := hE
          have RK := hide ok2.read
          replace S := hide (S.out.keeps k1)
          replace K := hide (K.out.trans k1)
          have hkz := hide (keysN_small S.out.ok)
          have hndp := hide S.out.ok.nodup
          clear k1 ok2
          go_wp2_with fail
          refine (Apart13_any vk2 (Ng.keys s2) _ RK.out (by have := hkz.out; omega)).mono ?_
          rintro e v3 ⟨rfl, k1⟩
          rw [decide_eq_true hndp.out]
          replace S := hide (S.out.keeps k1)
          replace K := hide (K.out.trans k1)
          clear k1 RK
          go_wp2_with fail
          go_roundw
          case rel => exact ⟨j + 1, s2, by omega, by go_num, S, HC2, hI2, HR2, K⟩
          case measure => simp [intOf]; omega
    · have i2 : ¬ (j : Int) < (zs.length : Int) := by omega
      go_wp2_with fail
      refine (HL.out _).mono ?_
      rintro e wz ⟨rfl, kz⟩
      replace K := hide (K.out.trans kz)
      clear kz
      go_wp2
      go_ret
      exact ⟨rfl, K.out⟩

set_option maxHeartbeats 8000000 in
set_option maxRecDepth 100000 in
theorem NegCovers_go (HLV : ∀ w, Calls Try.prog 9 #[] w fun e w' => e = .returned (.bool true) ∧ Keeps w w') (room : Int) (v : Value) (zs : List (Op15 × Value)) (kind : Int) (w : World) (_ : -9223372036854775808 ≤ room ∧ room ≤ 9223372036854775807) (hv : Ops15At w v zs) (hk : -9223372036854775808 ≤ kind ∧ kind ≤ 9223372036854775807) :
    Calls Try.prog 4 #[.int .i64 room, v, .int .i64 kind] w fun e w' => e = .returned (.bool true) ∧ Keeps w w' := by
  have HSM := hide (small15_any v zs 60 w hv)
  have HL := hide HLV
  obtain ⟨va, vc, hvd⟩ := hv.1.len
  rw [List.length_map] at hvd
  subst hvd
  cases hsm : small15 zs 60
  · rw [hsm] at HSM
    clear hv hk
    go_enter Try.func4, Try.ntmps4
    go_wp2_with fail
    refine (HSM.out).mono ?_
    rintro e w1 ⟨rfl, k1⟩
    have K := hide k1
    go_wp2_with fail
    refine (HL.out _).mono ?_
    rintro e wz ⟨rfl, kz⟩
    go_wp2
    go_ret
    exact ⟨rfl, K.out.trans kz⟩
  obtain ⟨h60, hds⟩ := small15_len hsm
  by_cases x0 : room < 1
  · rw [hsm] at HSM
    clear hv hk hds h60
    go_enter Try.func4, Try.ntmps4
    go_wp2_with fail
    refine (HSM.out).mono ?_
    rintro e w1 ⟨rfl, k1⟩
    have K := hide k1
    go_wp2_with fail
    refine (HL.out _).mono ?_
    rintro e wz ⟨rfl, kz⟩
    go_wp2
    go_ret
    exact ⟨rfl, K.out.trans kz⟩
  by_cases x1 : 1000 < room
  · rw [hsm] at HSM
    clear hv hk hds h60
    go_enter Try.func4, Try.ntmps4
    go_wp2_with fail
    refine (HSM.out).mono ?_
    rintro e w1 ⟨rfl, k1⟩
    have K := hide k1
    go_wp2_with fail
    refine (HL.out _).mono ?_
    rintro e wz ⟨rfl, kz⟩
    go_wp2
    go_ret
    exact ⟨rfl, K.out.trans kz⟩
  exact NegCovers_yes HLV room zs va vc kind w hv hk h60 hds x0 x1 hsm
end Go.Proofs.Ytedcjkfiljjpiaa
