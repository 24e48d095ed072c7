/- StoreScripts answers true: a store that is none. (Made by tools/genscripts14.py.) -/
import Derived.Test.YtdlaepfnogmebaaLStoreScriptsA
namespace Go.Proofs.Ytdlaepfnogmebaa
open Go.RowKit

set_option maxHeartbeats 64000000 in
set_option maxRecDepth 100000 in
theorem StoreScripts_none (room : Int) (os : List (Op14 × Value)) (va : Option Addr) (vc : Nat) (w : World) (hv : Ops14At w (.slice va os.length vc) os) (h60 : (os.length : Int) ≤ 60) (hds : ∀ z ∈ os, z.1.set.ds.length ≤ 1000000) (hsm : small14 os 60 = true) (h1 : room < 1 ∨ 1000 < room) :
    Calls Try.prog 3 #[.int .i64 room, .slice va os.length vc] w fun e w' => e = .returned (.bool true) ∧ Keeps w w' := by
  have HSM := hide (small14_any _ os 60 w hv)
  rw [hsm] at HSM
  obtain ⟨hrd, hall, hlen⟩ := hv
  have RD := hide hrd
  have HALL := hide hall
  have HDS := hide hds
  have h60' := hide h60
  clear hrd hall hlen hds hsm
  go_enter Try.func3, Try.ntmps3
  go_wp2_with fail
  refine (HSM.out).mono ?_
  rintro e w1 ⟨rfl, k1⟩
  have K := hide k1
  clear k1 HSM
  go_wp2_with fail
  refine (New_no room _ h1).mono ?_
  rintro e w2 ⟨rfl, k2⟩
  replace K := hide (K.out.trans k2)
  clear k2
  go_wp2_with fail
  refine (rNew_no room _ h1).mono ?_
  rintro e w3 ⟨rfl, k3⟩
  replace K := hide (K.out.trans k3)
  have hKS : Hid (w.heap.size ≤ w3.heap.size) := K.out.size
  have KB := hide (Blk.made w3 #[.int .i64 0, .slice none 0 0, .int .i64 0] 29)
  have k4 := (Keeps.refl w3).alloc (.cells #[.int .i64 0, .slice none 0 0, .int .i64 0] 29)
  replace K := hide (K.out.trans k4)
  clear k3 k4
  go_upto_region 5 with fail
  generalize w3.alloc (.cells #[.int .i64 0, .slice none 0 0, .int .i64 0] 29) = W4 at *
  generalize w3.heap.size = KS at *
  have hPM : Hid (Value.pointer none ≠ .pointer none → w.heap.size ≤ 0 ∧ w.heap.size ≤ 0 ∧ 0 < W4.heap.size ∧ 0 < W4.heap.size ∧ KS ≠ 0 ∧ KS ≠ 0) := fun h => absurd rfl h
  have S0 := hide (show ScOk w (.pointer none) 0 0 KS W4.heap.size 0 ⟨0, [], 0⟩ (.slice none 0 0) [] W4 from ⟨.inr ⟨rfl, rfl⟩, KB.out, ReadRow.nil, rfl, by simp, fun a n c e => (by cases e), by simp, K.out, Nat.le_refl _⟩)
  have hKL : Hid (KS < W4.heap.size) := KB.out.lt
  obtain ⟨b0, b1, b2⟩ := KB.out.three.1
  clear K KB
  go_upto_region 7 with fail
  clear b0 b1 b2
  generalize W4.heap.size = LO at *
  go_wp2_with fail
  go_loopw [7] (fun i wr => ∃ j : Nat, j ≤ os.length ∧ i = .int .i64 j ∧ ScR w (Value.pointer none) 0 0 KS LO j wr) (fun i _ => os.length - (intOf i).toNat)
  case atStart => exact ⟨0, by omega, rfl, _, _, _, S0.out⟩
  case round =>
    clear S0
    obtain ⟨j, hj, rfl, s, v, zs, hSC⟩ := hrel
    have SC := hide hSC
    have hform : ∃ qa ql qc, v = .slice qa ql qc := by
      obtain ⟨a, c, e⟩ := hSC.rd.len
      exact ⟨a, _, c, e⟩
    obtain ⟨qa, ql, qc, rfl⟩ := hform
    clear hSC
    by_cases hlt : j < os.length
    · have i2 : (j : Int) < (os.length : Int) := by omega
      have i0 : (0 : Int) ≤ (j : Int) := by omega
      have hv2 := RD.out.keeps SC.out.k
      obtain ⟨b, off, rfl, _, _⟩ := RD.out.parts (by rw [List.length_map]; omega)
      obtain ⟨c0, c1, c2, c3, c4, c5, c6, c7⟩ := row8o hv2 hlt
      obtain ⟨⟨hf1, hf2, hfd, hfn, hfr⟩, hdr⟩ := HALL.out _ (List.getElem_mem hlt)
      have hd6 := HDS.out _ (List.getElem_mem hlt)
      have hj60 : Hid ((j : Int) + 1 ≤ 60) := by have := h60'.out; rw [Hid]; omega
      generalize hoo : off + j * 8 = o at *
      generalize os[j] = z at *
      obtain ⟨z, zd⟩ := z
      obtain ⟨da, dc, hzd⟩ := hdr.len
      simp only at hzd hd6 hf1 hf2 hdr
      generalize hdl : z.set.ds.length = dl at hzd
      subst hzd
      simp only at c0 c1 c2 c3 c4 c5 c6 c7
      replace hdl := hide hdl
      replace hf1 := hide hf1
      replace hf2 := hide hf2
      replace hdr := hide hdr
      replace hd6 := hide hd6
      have hchj : Hid (0 ≤ s.changes ∧ s.changes ≤ 1099511627776) := by have h1 := SC.out.ch; have h2 := SC.out.sx.ok.2.2.1; have h3 := h60'.out; rw [Hid]; omega
      clear hv2 hfd hfn hfr
      go_upto_region 11 with fail
      have hLOw : Hid (LO ≤ wr.heap.size) := SC.out.sz
      have hOP : Hid ((Value.pointer none) ≠ .pointer none → wr.heap.size ≠ 0 ∧ wr.heap.size ≠ 0) := fun h => by have h3 := hPM.out h; have h4 := hLOw.out; omega
      have hOK : Hid (wr.heap.size ≠ KS) := by have h3 := hKL.out; have h4 := hLOw.out; rw [Hid]; omega
      have OB := hide (Blk.made wr #[.int .i64 z.d, .int .i64 z.now, .string z.set.key.n, .int .i64 z.set.key.t, .int .i64 z.set.key.c, .slice da dl dc, .int .i64 z.set.ttl, .int .i64 z.rank] 37)
      replace SC := hide (SC.out.keeps ((Keeps.refl wr).alloc (.cells #[.int .i64 z.d, .int .i64 z.now, .string z.set.key.n, .int .i64 z.set.key.t, .int .i64 z.set.key.c, .slice da dl dc, .int .i64 z.set.ttl, .int .i64 z.rank] 37)))
      clear c0 c1 c2 c3 c4 c5 c6 c7
      generalize wr.alloc (.cells #[.int .i64 z.d, .int .i64 z.now, .string z.set.key.n, .int .i64 z.set.key.t, .int .i64 z.set.key.c, .slice da dl dc, .int .i64 z.set.ttl, .int .i64 z.rank] 37) = V1 at *
      generalize wr.heap.size = OBK at *
      have hKSP : Hid ((Value.pointer none) ≠ .pointer none → ¬ 0 = KS ∧ ¬ 0 = KS) := fun h => by have h3 := hPM.out h; exact ⟨fun e => h3.2.2.2.2.1 e.symm, fun e => h3.2.2.2.2.2 e.symm⟩
      have hKSw : Hid (w.heap.size ≤ KS) := hKS
      by_cases hd0 : z.d = 0
      · have hb0d : (z.d == 0) = true := by rw [hd0]; rfl
        replace hd0 := hide hd0
        have HRP := hide (rPut_any s.room s.changes z.now (.slice qa ql qc) zs (.slice da dl dc) z.set z.rank V1 SC.out.rd SC.out.fz (by have := SC.out.len; omega) (by rw [SC.out.it]; exact SC.out.sx.ok.1) hchj.out SC.out.rm (hdr.out.keeps SC.out.k) hf1.out hf2.out)
        obtain ⟨o0, o1, o2, o3, o4, o5, o6, o7⟩ := OB.out.c8
        obtain ⟨k0, k1, k2⟩ := SC.out.kb.three.1
        go_upto_region 13 with fail
        go_wp2_with fail
        refine (HRP.out).mono ?_
        intro e w2 hE
        obtain ⟨v', zs', rfl, rd', it', mem', no', kx⟩ := hE
        rw [SC.out.it] at it' ⊢
        have hC2 : Hid ((sput s z.now z.set z.rank).room = s.room ∧ itemsZ zs' = (sput s z.now z.set z.rank).items ∧ (sput s z.now z.set z.rank).changes = (if rputE s.room s.items z.now z.set z.rank = 0 then s.changes + 1 else s.changes) ∧ (sput s z.now z.set z.rank).changes ≤ ((j + 1 : Nat) : Int)) := ⟨rfl, it', rfl, by show (if rputE s.room s.items z.now z.set z.rank = 0 then s.changes + 1 else s.changes) ≤ _; have := SC.out.ch; split <;> omega⟩
        have HPX := hide (fun W (h : SX (fun g => g = KS) W (Value.pointer none) 0 0 s) (k : Keeps w W) => PutX_any (Value.pointer none) 0 0 s z.now (.agg #[.string z.set.key.n, .int .i64 z.set.key.t, .int .i64 z.set.key.c, .slice da dl dc, .int .i64 z.set.ttl]) z.set z.rank W h ⟨_, rfl, hdr.out.keeps k⟩ hf1.out hf2.out hd6.out hchj.out.2)
        generalize sput s z.now z.set z.rank = s5 at *
        generalize (if rputE s.room s.items z.now z.set z.rank = 0 then s.changes + 1 else s.changes) = CH at *
        generalize rputE s.room s.items z.now z.set z.rank = E at *
        have hdz5 : Hid (∀ y ∈ zs', ReadS w y.2 y.1.set.ds) := fun y hy => by
          rcases mem' y hy with h | rfl
          · exact SC.out.dz y h
          · exact hdr.out
        obtain ⟨ya, yc, hvf⟩ := rd'.len
        rw [List.length_map] at hvf
        generalize hyl : zs'.length = yl at hvf
        replace hyl := hide hyl
        subst hvf
        have hlo : Hid (∀ a n c, Value.slice ya yl yc = .slice (some a) n c → LO ≤ a.block) := by
          rcases no' with h | h
          · rw [Hid, h]; exact SC.out.lo
          · exact fun a n c e => Nat.le_trans SC.out.sz (h a n c e)
        have RDY := hide rd'
        have SXC := hide (SC.out.sx.keeps kx)
        have KC := hide (SC.out.kb.keeps kx)
        have KK := hide (SC.out.k.trans kx)
        replace OB := hide (OB.out.keeps kx)
        have hs3 : Hid (LO ≤ w2.heap.size) := Nat.le_trans SC.out.sz kx.size
        clear SC rd' it' mem' no' kx
        have N9 := hide (Blk.made w2 #[.int .i64 s.room, .slice ya yl yc, .int .i64 CH] 29)
        have ka := (Keeps.refl w2).alloc (.cells #[.int .i64 s.room, .slice ya yl yc, .int .i64 CH] 29)
        replace SXC := hide (SXC.out.keeps ka)
        replace KC := hide (KC.out.keeps ka)
        replace KK := hide (KK.out.trans ka)
        replace OB := hide (OB.out.keeps ka)
        replace RDY := hide (RDY.out.keeps ka)
        replace hs3 := hide (Nat.le_trans hs3.out ka.size)
        clear ka o0 o1 o2 o3 o4 o5 o6 o7 k0 k1 k2 HRP
        go_upto_region 14 with fail
        generalize w2.alloc (.cells #[.int .i64 s.room, .slice ya yl yc, .int .i64 CH] 29) = W3 at *
        generalize w2.heap.size = NB9 at *
        obtain ⟨n0, n1, n2⟩ := N9.out.three.1
        obtain ⟨⟨k0, k1, k2⟩, ⟨f0, f1, f2⟩, _⟩ := KC.out.three
        go_upto_region 15 with fail
        have KC4 := hide (set3_blk KC.out (.int .i64 s.room) (.slice ya yl yc) (.int .i64 CH))
        have SX4 := hide (SXC.out.other (w' := set3 W3 KS (.int .i64 s.room) (.slice ya yl yc) (.int .i64 CH)) (Nat.le_of_eq (set3_size _ _ _ _ _).symm) (fun k _ hk => heap_set3 W3 KS _ _ _ k hk) hKSP.out)
        have KK4 := hide (set3_keeps KK.out hKSw.out (.int .i64 s.room) (.slice ya yl yc) (.int .i64 CH))
        have OB4 := hide (show Blk (set3 W3 KS (.int .i64 s.room) (.slice ya yl yc) (.int .i64 CH)) OBK _ _ from (heap_set3 W3 KS _ _ _ OBK hOK.out).trans OB.out)
        have RD4 := hide (RDY.out.set3 (G := KS) (fun a n k e => by have h1 := hlo.out a n k e; have h2 := hKL.out; omega) (.int .i64 s.room) (.slice ya yl yc) (.int .i64 CH))
        have hs4 : Hid (LO ≤ (set3 W3 KS (.int .i64 s.room) (.slice ya yl yc) (.int .i64 CH)).heap.size) := by rw [Hid, set3_size]; exact hs3.out
        unfold set3 at KC4 SX4 KK4 OB4 RD4 hs4
        generalize ((W3.setCell ⟨KS, 0, none⟩ (.int .i64 s.room)).setCell ⟨KS, 1, none⟩ (.slice ya yl yc)).setCell ⟨KS, 2, none⟩ (.int .i64 CH) = W4 at *
        clear n0 n1 n2 k0 k1 k2 f0 f1 f2 KC SXC KK OB RDY hs3 N9
        obtain ⟨o0, o1, o2, o3, o4, o5, o6, o7⟩ := OB4.out.c8
        go_wp2_with fail
        refine (HPX.out _ SX4.out KK4.out).mono ?_
        intro e V9 hE
        obtain ⟨rfl, sx5, kx5⟩ := hE
        have hbe : (E != E) = false := by simp
        have KC5 := hide (kx5.blk KC4.out (fun h => ⟨(hPM.out h).2.2.2.2.1, (hPM.out h).2.2.2.2.2⟩))
        have RD5 := hide (kx5.row RD4.out (fun h a n k e => by have h1 := hlo.out a n k e; have h2 := hPM.out h; exact ⟨by omega, by omega, by omega⟩))
        have K5 := hide (show Keeps w V9 from Below.trans KK4.out (kx5.below (fun h => ⟨(hPM.out h).1, (hPM.out h).2.1⟩) KK4.out.size))
        have SC5 := hide (show ScOk w (Value.pointer none) 0 0 KS LO (j + 1) s5 (.slice ya yl yc) zs' V9 from ⟨sx5, by rw [hC2.out.1, hC2.out.2.2.1]; exact KC5.out, RD5.out, hC2.out.2.1, hdz5.out, hlo.out, hC2.out.2.2.2, K5.out, Nat.le_trans hs4.out kx5.2.size⟩)
        clear KC5 RD5 K5 sx5 kx5 KC4 SX4 KK4 OB4 RD4 hs4 o0 o1 o2 o3 o4 o5 o6 o7 hC2 hdz5 hlo
        have SC6 := SC5
        have hl5 : zs'.length ≤ 1000 := SC6.out.len
        have HK1 := hide (fun W (k : Keeps V9 W) => KeysX_any (Value.pointer none) 0 0 s5 W (SC6.out.sx.keeps k))
        have HK2 := hide (fun W (k : Keeps V9 W) => rKeys_any s5.room s5.changes (.slice ya yl yc) zs' W (SC6.out.rd.keeps k) (by omega))
        rw [SC6.out.it] at HK2
        have HK4 := hide (fun W (k : Keeps V9 W) => ChangesX_any (Value.pointer none) 0 0 s5 W (SC6.out.sx.keeps k))
        have hkl : Hid ((Sto.keysL s5.items).length ≤ 1000) := by rw [Hid, Sto.keysL_len]; exact SC6.out.sx.ok.2.2.2.2
        have HT : Hid (∀ w', Keeps V9 w' → w'.cell? ⟨KS, 0, none⟩ = some (.int .i64 s5.room) ∧ w'.cell? ⟨KS, 1, none⟩ = some (.slice ya yl yc) ∧ w'.cell? ⟨KS, 2, none⟩ = some (.int .i64 s5.changes)) := fun w' k => (SC6.out.kb.keeps k).three.1
        have T := HT.out _ (Keeps.refl V9).drew
        have KK : Keeps V9 V9.drew := (Keeps.refl V9).drew
        replace hl5 := hide hl5
        generalize Sto.keysL s5.items = KL at *
        have HK3 := hide (fun W va vb (ha : ReadRow W va 3 (KL.map qnL)) (hb : ReadRow W vb 3 (KL.map qnL)) => refKeys13_any va vb KL KL W ha hb (by have := hkl.out; unfold maxLen; omega) (by have := hkl.out; unfold maxLen; omega))
        rw [decide_eq_true rfl] at HK3
        go_upto_region 33 with fail
        go_region_held3 (fun w' => w'.cell? ⟨KS, 0, none⟩ = some (.int .i64 s5.room) ∧ w'.cell? ⟨KS, 1, none⟩ = some (.slice ya yl yc) ∧ w'.cell? ⟨KS, 2, none⟩ = some (.int .i64 s5.changes)) (exact T) ((first | (go_at_call 25; refine (HK1.out _ KK).mono ?_; intro e wa hE; obtain ⟨vka, rfl, oa, ka⟩ := hE; have RA := hide oa.read; replace KK := Keeps.trans KK ka; replace T := HT.out _ KK; clear oa) | (go_at_call 26; refine (HK2.out _ KK).mono ?_; intro e wb hE; obtain ⟨vkb, rfl, ob, kb⟩ := hE; replace RA := hide (RA.out.keeps kb); have RB := hide ob.read; replace KK := Keeps.trans KK kb; replace T := HT.out _ KK; clear ob kb) | (go_at_call 24; refine (HK3.out _ _ _ RA.out RB.out).mono ?_; rintro e wc ⟨rfl, kc⟩; replace KK := Keeps.trans KK kc; replace T := HT.out _ KK; clear kc) | (go_at_call 27; refine (HK4.out _ KK).mono ?_; rintro e wd ⟨rfl, rfl⟩)))
        have SC7 := hide (SC6.out.keeps KK)
        clear T HT HK1 HK2 HK3 HK4 SC6 SC5 KK
        go_wp2_with fail
        go_roundw
        case rel => exact ⟨j + 1, by omega, by go_num, _, _, _, SC7.out⟩
        case measure => simp [intOf]; omega
      by_cases hd1 : z.d = 1
      · skip
        have hb0d : (z.d == 0) = false := by rw [beq_eq_false_iff_ne]; omega
        have hb1d : (z.d == 1) = true := by rw [hd1]; rfl
        replace hd1 := hide hd1
        have HRG := hide (rGet_any s.room s.changes z.now (.slice qa ql qc) zs z.set.key V1 SC.out.rd SC.out.fz (by have := SC.out.len; omega) (by rw [SC.out.it]; exact SC.out.sx.ok.1))
        obtain ⟨o0, o1, o2, o3, o4, o5, o6, o7⟩ := OB.out.c8
        obtain ⟨k0, k1, k2⟩ := SC.out.kb.three.1
        go_upto_region 18 with fail
        go_wp2_with fail
        refine (HRG.out).mono ?_
        intro e w2 hE
        obtain ⟨v', zs', vi, rfl, hrt, rd', it', mem', no', kx⟩ := hE
        have hpk : peekL zs z.now z.set.key = Sto.peek s z.now z.set.key := by unfold peekL Sto.peek; rw [SC.out.it]
        rw [hpk] at hrt ⊢
        rw [SC.out.it] at it'
        obtain ⟨x, xa, xl, xc, rfl, hxx, hxr⟩ := RTell.see2 SC.out.dz hrt
        have hlx : Hid (x.set.ds.length ≤ 1099511627776) := by
          rw [hxx]
          cases hpp : Sto.peek s z.now z.set.key with
          | none => simp [Hid, noIt, noSt]
          | some i =>
            have h9 := (SC.out.sx.ok.2.2.2.1 i (Sto.find_key (Bo.peek_some hpp).1).1).2.2.1
            show i.set.ds.length ≤ 1099511627776
            omega
        have hC2 : Hid ((⟨s.room, getL s.items z.now z.set.key, s.changes⟩ : Sto).room = s.room ∧ itemsZ zs' = (⟨s.room, getL s.items z.now z.set.key, s.changes⟩ : Sto).items ∧ (⟨s.room, getL s.items z.now z.set.key, s.changes⟩ : Sto).changes = s.changes ∧ (⟨s.room, getL s.items z.now z.set.key, s.changes⟩ : Sto).changes ≤ ((j + 1 : Nat) : Int)) := ⟨rfl, it', rfl, by show s.changes ≤ _; have := SC.out.ch; omega⟩
        have HGX := hide (fun W (h : SX (fun g => g = KS) W (Value.pointer none) 0 0 s) => GetX_any (Value.pointer none) 0 0 s z.now z.set.key W h hf2.out.1)
        generalize (⟨s.room, getL s.items z.now z.set.key, s.changes⟩ : Sto) = s5 at *
        have hdz5 : Hid (∀ y ∈ zs', ReadS w y.2 y.1.set.ds) := fun y hy => SC.out.dz y (mem' y hy)
        have XR0 := hide hxr
        replace hxx := hide hxx
        clear hrt hpk hxr
        generalize Sto.peek s z.now z.set.key = OI at *
        generalize hBI : OI.isSome = BI at *
        replace hBI := hide hBI
        unfold itV
        obtain ⟨ya, yc, hvf⟩ := rd'.len
        rw [List.length_map] at hvf
        generalize hyl : zs'.length = yl at hvf
        replace hyl := hide hyl
        subst hvf
        have hlo : Hid (∀ a n c, Value.slice ya yl yc = .slice (some a) n c → LO ≤ a.block) := by
          rcases no' with h | h
          · rw [Hid, h]; exact SC.out.lo
          · exact fun a n c e => Nat.le_trans SC.out.sz (h a n c e)
        have RDY := hide rd'
        have SXC := hide (SC.out.sx.keeps kx)
        have KC := hide (SC.out.kb.keeps kx)
        have KK := hide (SC.out.k.trans kx)
        replace OB := hide (OB.out.keeps kx)
        have hs3 : Hid (LO ≤ w2.heap.size) := Nat.le_trans SC.out.sz kx.size
        clear SC rd' it' mem' no' kx
        have hLN : Hid (LO ≤ w2.heap.size) := hs3.out
        have N9 := hide ((Blk.made w2 #[.int .i64 s.room, .slice ya yl yc, .int .i64 s.changes] 29).alloc (.cells #[.string x.set.key.n, .int .i64 x.set.key.t, .int .i64 x.set.key.c, .slice xa xl xc, .int .i64 x.set.ttl, .int .i64 x.u, .int .i64 x.rank] 43))
        have XB := Blk.made (w2.alloc (.cells #[.int .i64 s.room, .slice ya yl yc, .int .i64 s.changes] 29)) #[.string x.set.key.n, .int .i64 x.set.key.t, .int .i64 x.set.key.c, .slice xa xl xc, .int .i64 x.set.ttl, .int .i64 x.u, .int .i64 x.rank] 43
        rw [size_allocG] at XB
        replace XB := hide XB
        have ka := ((Keeps.refl w2).alloc (.cells #[.int .i64 s.room, .slice ya yl yc, .int .i64 s.changes] 29)).alloc (.cells #[.string x.set.key.n, .int .i64 x.set.key.t, .int .i64 x.set.key.c, .slice xa xl xc, .int .i64 x.set.ttl, .int .i64 x.u, .int .i64 x.rank] 43)
        replace SXC := hide (SXC.out.keeps ka)
        replace KC := hide (KC.out.keeps ka)
        replace KK := hide (KK.out.trans ka)
        replace OB := hide (OB.out.keeps ka)
        replace RDY := hide (RDY.out.keeps ka)
        replace hs3 := hide (Nat.le_trans hs3.out ka.size)
        clear ka o0 o1 o2 o3 o4 o5 o6 o7 k0 k1 k2 HRG
        go_upto_region 19 with fail
        generalize (w2.alloc (.cells #[.int .i64 s.room, .slice ya yl yc, .int .i64 s.changes] 29)).alloc (.cells #[.string x.set.key.n, .int .i64 x.set.key.t, .int .i64 x.set.key.c, .slice xa xl xc, .int .i64 x.set.ttl, .int .i64 x.u, .int .i64 x.rank] 43) = W3 at *
        have hXN : Hid (w2.heap.size + 1 ≠ KS) := by have h1 := hLN.out; have h2 := hKL.out; rw [Hid]; omega
        have hXP : Hid ((Value.pointer none) ≠ .pointer none → w2.heap.size + 1 ≠ 0 ∧ w2.heap.size + 1 ≠ 0) := fun h => by have h1 := hLN.out; have h2 := hPM.out h; omega
        generalize w2.heap.size + 1 = XBN at *
        generalize w2.heap.size = NB9 at *
        obtain ⟨n0, n1, n2⟩ := N9.out.three.1
        obtain ⟨⟨k0, k1, k2⟩, ⟨f0, f1, f2⟩, _⟩ := KC.out.three
        go_upto_region 20 with fail
        have KC4 := hide (set3_blk KC.out (.int .i64 s.room) (.slice ya yl yc) (.int .i64 s.changes))
        have SX4 := hide (SXC.out.other (w' := set3 W3 KS (.int .i64 s.room) (.slice ya yl yc) (.int .i64 s.changes)) (Nat.le_of_eq (set3_size _ _ _ _ _).symm) (fun k _ hk => heap_set3 W3 KS _ _ _ k hk) hKSP.out)
        have KK4 := hide (set3_keeps KK.out hKSw.out (.int .i64 s.room) (.slice ya yl yc) (.int .i64 s.changes))
        have OB4 := hide (show Blk (set3 W3 KS (.int .i64 s.room) (.slice ya yl yc) (.int .i64 s.changes)) OBK _ _ from (heap_set3 W3 KS _ _ _ OBK hOK.out).trans OB.out)
        have RD4 := hide (RDY.out.set3 (G := KS) (fun a n k e => by have h1 := hlo.out a n k e; have h2 := hKL.out; omega) (.int .i64 s.room) (.slice ya yl yc) (.int .i64 s.changes))
        have hs4 : Hid (LO ≤ (set3 W3 KS (.int .i64 s.room) (.slice ya yl yc) (.int .i64 s.changes)).heap.size) := by rw [Hid, set3_size]; exact hs3.out
        have XB4 := hide (show Blk (set3 W3 KS (.int .i64 s.room) (.slice ya yl yc) (.int .i64 s.changes)) XBN _ _ from (heap_set3 W3 KS _ _ _ XBN hXN.out).trans XB.out)
        unfold set3 at KC4 SX4 KK4 OB4 RD4 hs4 XB4
        generalize ((W3.setCell ⟨KS, 0, none⟩ (.int .i64 s.room)).setCell ⟨KS, 1, none⟩ (.slice ya yl yc)).setCell ⟨KS, 2, none⟩ (.int .i64 s.changes) = W4 at *
        clear XB n0 n1 n2 k0 k1 k2 f0 f1 f2 KC SXC KK OB RDY hs3 N9
        obtain ⟨o0, o1, o2, o3, o4, o5, o6, o7⟩ := OB4.out.c8
        go_wp2_with fail
        refine (HGX.out _ SX4.out).mono ?_
        intro e V8 hE
        obtain ⟨vy, rfl, hty, sx5, kx5⟩ := hE
        obtain ⟨y, ua, ul, uc, rfl, hyy, hyo⟩ := hty.see2
        obtain rfl : y = x := hyy.trans hxx.out.symm
        rw [hBI.out]
        have XB5 := hide (kx5.blk XB4.out hXP.out)
        have KC5 := hide (kx5.blk KC4.out (fun h => ⟨(hPM.out h).2.2.2.2.1, (hPM.out h).2.2.2.2.2⟩))
        have RD5 := hide (kx5.row RD4.out (fun h a n k e => by have h1 := hlo.out a n k e; have h2 := hPM.out h; exact ⟨by omega, by omega, by omega⟩))
        have K5 := hide (show Keeps w V8 from Below.trans KK4.out (kx5.below (fun h => ⟨(hPM.out h).1, (hPM.out h).2.1⟩) KK4.out.size))
        have SC5 := hide (show ScOk w (Value.pointer none) 0 0 KS LO (j + 1) s5 (.slice ya yl yc) zs' V8 from ⟨sx5, by rw [hC2.out.1, hC2.out.2.2.1]; exact KC5.out, RD5.out, hC2.out.2.1, hdz5.out, hlo.out, hC2.out.2.2.2, K5.out, Nat.le_trans hs4.out kx5.2.size⟩)
        clear KC5 RD5 K5 sx5 kx5 KC4 SX4 KK4 OB4 RD4 hs4 o0 o1 o2 o3 o4 o5 o6 o7 hC2 hdz5 hlo
        have XR8 := hide (XR0.out.keeps SC5.out.k)
        have YR8 := hide (readS_of_tv hyo.read)
        clear hty hyy hyo hxx XR0 XB4 HGX
        unfold itV
        have YB := hide (Blk.made V8 #[.string y.set.key.n, .int .i64 y.set.key.t, .int .i64 y.set.key.c, .slice ua ul uc, .int .i64 y.set.ttl, .int .i64 y.u, .int .i64 y.rank] 46)
        have ka := (Keeps.refl V8).alloc (.cells #[.string y.set.key.n, .int .i64 y.set.key.t, .int .i64 y.set.key.c, .slice ua ul uc, .int .i64 y.set.ttl, .int .i64 y.u, .int .i64 y.rank] 46)
        replace SC5 := hide (SC5.out.keeps ka)
        have XB := hide (XB5.out.keeps ka)
        have XR := hide (XR8.out.keeps ka)
        have YR := hide (YR8.out.keeps ka)
        clear ka XB5 XR8 YR8
        go_upto_region 21 with fail
        generalize V8.alloc (.cells #[.string y.set.key.n, .int .i64 y.set.key.t, .int .i64 y.set.key.c, .slice ua ul uc, .int .i64 y.set.ttl, .int .i64 y.u, .int .i64 y.rank] 46) = V7 at *
        generalize V8.heap.size = YBN at *
        have HTX : Hid (∀ w', Keeps V7 w' → (w'.cell? ⟨XBN, 0, none⟩ = some (.string y.set.key.n) ∧ w'.cell? ⟨XBN, 1, none⟩ = some (.int .i64 y.set.key.t) ∧ w'.cell? ⟨XBN, 2, none⟩ = some (.int .i64 y.set.key.c) ∧ w'.cell? ⟨XBN, 3, none⟩ = some (.slice xa xl xc) ∧ w'.cell? ⟨XBN, 4, none⟩ = some (.int .i64 y.set.ttl) ∧ w'.cell? ⟨XBN, 5, none⟩ = some (.int .i64 y.u) ∧ w'.cell? ⟨XBN, 6, none⟩ = some (.int .i64 y.rank)) ∧ (w'.cell? ⟨YBN, 0, none⟩ = some (.string y.set.key.n) ∧ w'.cell? ⟨YBN, 1, none⟩ = some (.int .i64 y.set.key.t) ∧ w'.cell? ⟨YBN, 2, none⟩ = some (.int .i64 y.set.key.c) ∧ w'.cell? ⟨YBN, 3, none⟩ = some (.slice ua ul uc) ∧ w'.cell? ⟨YBN, 4, none⟩ = some (.int .i64 y.set.ttl) ∧ w'.cell? ⟨YBN, 5, none⟩ = some (.int .i64 y.u) ∧ w'.cell? ⟨YBN, 6, none⟩ = some (.int .i64 y.rank))) := fun w' k => ⟨(XB.out.keeps k).seven.1, (YB.out.keeps k).seven.1⟩
        have HON := hide (fun W (k : Keeps V7 W) => One14_any (.slice ua ul uc) (.slice xa xl xc) y y W (YR.out.keeps k) (XR.out.keeps k) hlx.out)
        rw [decide_eq_true rfl] at HON
        unfold itV at HON
        clear XB YB XR YR hlx
        have T := HTX.out _ (Keeps.refl V7).drew
        have KK : Keeps V7 V7.drew := (Keeps.refl V7).drew
        have hbb : (BI != BI) = false := by cases BI <;> rfl
        go_upto_region 21 with fail
        go_region_held3 (fun w' => (w'.cell? ⟨XBN, 0, none⟩ = some (.string y.set.key.n) ∧ w'.cell? ⟨XBN, 1, none⟩ = some (.int .i64 y.set.key.t) ∧ w'.cell? ⟨XBN, 2, none⟩ = some (.int .i64 y.set.key.c) ∧ w'.cell? ⟨XBN, 3, none⟩ = some (.slice xa xl xc) ∧ w'.cell? ⟨XBN, 4, none⟩ = some (.int .i64 y.set.ttl) ∧ w'.cell? ⟨XBN, 5, none⟩ = some (.int .i64 y.u) ∧ w'.cell? ⟨XBN, 6, none⟩ = some (.int .i64 y.rank)) ∧ (w'.cell? ⟨YBN, 0, none⟩ = some (.string y.set.key.n) ∧ w'.cell? ⟨YBN, 1, none⟩ = some (.int .i64 y.set.key.t) ∧ w'.cell? ⟨YBN, 2, none⟩ = some (.int .i64 y.set.key.c) ∧ w'.cell? ⟨YBN, 3, none⟩ = some (.slice ua ul uc) ∧ w'.cell? ⟨YBN, 4, none⟩ = some (.int .i64 y.set.ttl) ∧ w'.cell? ⟨YBN, 5, none⟩ = some (.int .i64 y.u) ∧ w'.cell? ⟨YBN, 6, none⟩ = some (.int .i64 y.rank))) (exact T) ((first | (go_at_call 19; refine (told14_any _ _ _ _ _ _ _ _ _ _).mono ?_; rintro e w9 ⟨rfl, k5⟩; replace KK := Keeps.trans KK k5; replace T := HTX.out _ KK; clear k5) | (go_at_call 18; refine (HON.out _ KK).mono ?_; rintro e w9 ⟨rfl, k5⟩; replace KK := Keeps.trans KK k5; replace T := HTX.out _ KK; clear k5)))
        replace SC5 := hide (SC5.out.keeps KK)
        clear T HTX HON KK hbb
        have SC6 := SC5
        have hl5 : zs'.length ≤ 1000 := SC6.out.len
        have HK1 := hide (fun W (k : Keeps w9 W) => KeysX_any (Value.pointer none) 0 0 s5 W (SC6.out.sx.keeps k))
        have HK2 := hide (fun W (k : Keeps w9 W) => rKeys_any s5.room s5.changes (.slice ya yl yc) zs' W (SC6.out.rd.keeps k) (by omega))
        rw [SC6.out.it] at HK2
        have HK4 := hide (fun W (k : Keeps w9 W) => ChangesX_any (Value.pointer none) 0 0 s5 W (SC6.out.sx.keeps k))
        have hkl : Hid ((Sto.keysL s5.items).length ≤ 1000) := by rw [Hid, Sto.keysL_len]; exact SC6.out.sx.ok.2.2.2.2
        have HT : Hid (∀ w', Keeps w9 w' → w'.cell? ⟨KS, 0, none⟩ = some (.int .i64 s5.room) ∧ w'.cell? ⟨KS, 1, none⟩ = some (.slice ya yl yc) ∧ w'.cell? ⟨KS, 2, none⟩ = some (.int .i64 s5.changes)) := fun w' k => (SC6.out.kb.keeps k).three.1
        have T := HT.out _ (Keeps.refl w9).drew
        have KK : Keeps w9 w9.drew := (Keeps.refl w9).drew
        replace hl5 := hide hl5
        generalize Sto.keysL s5.items = KL at *
        have HK3 := hide (fun W va vb (ha : ReadRow W va 3 (KL.map qnL)) (hb : ReadRow W vb 3 (KL.map qnL)) => refKeys13_any va vb KL KL W ha hb (by have := hkl.out; unfold maxLen; omega) (by have := hkl.out; unfold maxLen; omega))
        rw [decide_eq_true rfl] at HK3
        go_upto_region 33 with fail
        go_region_held3 (fun w' => w'.cell? ⟨KS, 0, none⟩ = some (.int .i64 s5.room) ∧ w'.cell? ⟨KS, 1, none⟩ = some (.slice ya yl yc) ∧ w'.cell? ⟨KS, 2, none⟩ = some (.int .i64 s5.changes)) (exact T) ((first | (go_at_call 25; refine (HK1.out _ KK).mono ?_; intro e wa hE; obtain ⟨vka, rfl, oa, ka⟩ := hE; have RA := hide oa.read; replace KK := Keeps.trans KK ka; replace T := HT.out _ KK; clear oa) | (go_at_call 26; refine (HK2.out _ KK).mono ?_; intro e wb hE; obtain ⟨vkb, rfl, ob, kb⟩ := hE; replace RA := hide (RA.out.keeps kb); have RB := hide ob.read; replace KK := Keeps.trans KK kb; replace T := HT.out _ KK; clear ob kb) | (go_at_call 24; refine (HK3.out _ _ _ RA.out RB.out).mono ?_; rintro e wc ⟨rfl, kc⟩; replace KK := Keeps.trans KK kc; replace T := HT.out _ KK; clear kc) | (go_at_call 27; refine (HK4.out _ KK).mono ?_; rintro e wd ⟨rfl, rfl⟩)))
        have SC7 := hide (SC6.out.keeps KK)
        clear T HT HK1 HK2 HK3 HK4 SC6 SC5 KK
        go_wp2_with fail
        go_roundw
        case rel => exact ⟨j + 1, by omega, by go_num, _, _, _, SC7.out⟩
        case measure => simp [intOf]; omega
      by_cases hd2 : z.d = 2
      · skip
        have hb0d : (z.d == 0) = false := by rw [beq_eq_false_iff_ne]; omega
        have hb1d : (z.d == 1) = false := by rw [beq_eq_false_iff_ne]; omega
        have hb2d : (z.d == 2) = true := by rw [hd2]; rfl
        replace hd2 := hide hd2
        have HRG := hide (rPeek_any s.room s.changes z.now (.slice qa ql qc) zs z.set.key V1 SC.out.rd SC.out.fz (by have := SC.out.len; omega))
        obtain ⟨o0, o1, o2, o3, o4, o5, o6, o7⟩ := OB.out.c8
        obtain ⟨k0, k1, k2⟩ := SC.out.kb.three.1
        go_upto_region 24 with fail
        go_wp2_with fail
        refine (HRG.out).mono ?_
        intro e w2 hE
        obtain ⟨vi, rfl, hrt, kx⟩ := hE
        have hpk : peekL zs z.now z.set.key = Sto.peek s z.now z.set.key := by unfold peekL Sto.peek; rw [SC.out.it]
        rw [hpk] at hrt ⊢
        obtain ⟨x, xa, xl, xc, rfl, hxx, hxr⟩ := RTell.see2 SC.out.dz hrt
        have hlx : Hid (x.set.ds.length ≤ 1099511627776) := by
          rw [hxx]
          cases hpp : Sto.peek s z.now z.set.key with
          | none => simp [Hid, noIt, noSt]
          | some i =>
            have h9 := (SC.out.sx.ok.2.2.2.1 i (Sto.find_key (Bo.peek_some hpp).1).1).2.2.1
            show i.set.ds.length ≤ 1099511627776
            omega
        have HGX := hide (fun W (h : SX (fun g => g = KS) W (Value.pointer none) 0 0 s) => PeekX_any (Value.pointer none) 0 0 s z.now z.set.key W h hf2.out.1)
        have XR0 := hide hxr
        replace hxx := hide hxx
        clear hrt hpk hxr
        generalize Sto.peek s z.now z.set.key = OI at *
        generalize hBI : OI.isSome = BI at *
        replace hBI := hide hBI
        unfold itV
        replace OB := hide (OB.out.keeps kx)
        have SC5 := hide (SC.out.keeps kx)
        have XB := hide (Blk.made w2 #[.string x.set.key.n, .int .i64 x.set.key.t, .int .i64 x.set.key.c, .slice xa xl xc, .int .i64 x.set.ttl, .int .i64 x.u, .int .i64 x.rank] 43)
        have ka := (Keeps.refl w2).alloc (.cells #[.string x.set.key.n, .int .i64 x.set.key.t, .int .i64 x.set.key.c, .slice xa xl xc, .int .i64 x.set.ttl, .int .i64 x.u, .int .i64 x.rank] 43)
        replace OB := hide (OB.out.keeps ka)
        replace SC5 := hide (SC5.out.keeps ka)
        clear SC kx ka o0 o1 o2 o3 o4 o5 o6 o7 k0 k1 k2 HRG
        go_upto_region 25 with fail
        generalize w2.alloc (.cells #[.string x.set.key.n, .int .i64 x.set.key.t, .int .i64 x.set.key.c, .slice xa xl xc, .int .i64 x.set.ttl, .int .i64 x.u, .int .i64 x.rank] 43) = W3 at *
        generalize w2.heap.size = XBN at *
        obtain ⟨o0, o1, o2, o3, o4, o5, o6, o7⟩ := OB.out.c8
        go_wp2_with fail
        refine (HGX.out _ SC5.out.sx).mono ?_
        intro e V8 hE
        obtain ⟨vy, rfl, hty, kx⟩ := hE
        obtain ⟨y, ua, ul, uc, rfl, hyy, hyo⟩ := hty.see2
        obtain rfl : y = x := hyy.trans hxx.out.symm
        rw [hBI.out]
        replace SC5 := hide (SC5.out.keeps kx)
        replace XB := hide (XB.out.keeps kx)
        have XR8 := hide (XR0.out.keeps SC5.out.k)
        have YR8 := hide (readS_of_tv hyo.read)
        clear hty hyy hyo hxx XR0 HGX kx o0 o1 o2 o3 o4 o5 o6 o7
        unfold itV
        have YB := hide (Blk.made V8 #[.string y.set.key.n, .int .i64 y.set.key.t, .int .i64 y.set.key.c, .slice ua ul uc, .int .i64 y.set.ttl, .int .i64 y.u, .int .i64 y.rank] 46)
        have ka := (Keeps.refl V8).alloc (.cells #[.string y.set.key.n, .int .i64 y.set.key.t, .int .i64 y.set.key.c, .slice ua ul uc, .int .i64 y.set.ttl, .int .i64 y.u, .int .i64 y.rank] 46)
        replace SC5 := hide (SC5.out.keeps ka)
        replace XB := hide (XB.out.keeps ka)
        have XR := hide (XR8.out.keeps ka)
        have YR := hide (YR8.out.keeps ka)
        clear ka XR8 YR8
        go_upto_region 26 with fail
        generalize V8.alloc (.cells #[.string y.set.key.n, .int .i64 y.set.key.t, .int .i64 y.set.key.c, .slice ua ul uc, .int .i64 y.set.ttl, .int .i64 y.u, .int .i64 y.rank] 46) = V7 at *
        generalize V8.heap.size = YBN at *
        have HTX : Hid (∀ w', Keeps V7 w' → (w'.cell? ⟨XBN, 0, none⟩ = some (.string y.set.key.n) ∧ w'.cell? ⟨XBN, 1, none⟩ = some (.int .i64 y.set.key.t) ∧ w'.cell? ⟨XBN, 2, none⟩ = some (.int .i64 y.set.key.c) ∧ w'.cell? ⟨XBN, 3, none⟩ = some (.slice xa xl xc) ∧ w'.cell? ⟨XBN, 4, none⟩ = some (.int .i64 y.set.ttl) ∧ w'.cell? ⟨XBN, 5, none⟩ = some (.int .i64 y.u) ∧ w'.cell? ⟨XBN, 6, none⟩ = some (.int .i64 y.rank)) ∧ (w'.cell? ⟨YBN, 0, none⟩ = some (.string y.set.key.n) ∧ w'.cell? ⟨YBN, 1, none⟩ = some (.int .i64 y.set.key.t) ∧ w'.cell? ⟨YBN, 2, none⟩ = some (.int .i64 y.set.key.c) ∧ w'.cell? ⟨YBN, 3, none⟩ = some (.slice ua ul uc) ∧ w'.cell? ⟨YBN, 4, none⟩ = some (.int .i64 y.set.ttl) ∧ w'.cell? ⟨YBN, 5, none⟩ = some (.int .i64 y.u) ∧ w'.cell? ⟨YBN, 6, none⟩ = some (.int .i64 y.rank))) := fun w' k => ⟨(XB.out.keeps k).seven.1, (YB.out.keeps k).seven.1⟩
        have HON := hide (fun W (k : Keeps V7 W) => One14_any (.slice ua ul uc) (.slice xa xl xc) y y W (YR.out.keeps k) (XR.out.keeps k) hlx.out)
        rw [decide_eq_true rfl] at HON
        unfold itV at HON
        clear XB YB XR YR hlx
        have T := HTX.out _ (Keeps.refl V7).drew
        have KK : Keeps V7 V7.drew := (Keeps.refl V7).drew
        have hbb : (BI != BI) = false := by cases BI <;> rfl
        go_upto_region 26 with fail
        go_region_held3 (fun w' => (w'.cell? ⟨XBN, 0, none⟩ = some (.string y.set.key.n) ∧ w'.cell? ⟨XBN, 1, none⟩ = some (.int .i64 y.set.key.t) ∧ w'.cell? ⟨XBN, 2, none⟩ = some (.int .i64 y.set.key.c) ∧ w'.cell? ⟨XBN, 3, none⟩ = some (.slice xa xl xc) ∧ w'.cell? ⟨XBN, 4, none⟩ = some (.int .i64 y.set.ttl) ∧ w'.cell? ⟨XBN, 5, none⟩ = some (.int .i64 y.u) ∧ w'.cell? ⟨XBN, 6, none⟩ = some (.int .i64 y.rank)) ∧ (w'.cell? ⟨YBN, 0, none⟩ = some (.string y.set.key.n) ∧ w'.cell? ⟨YBN, 1, none⟩ = some (.int .i64 y.set.key.t) ∧ w'.cell? ⟨YBN, 2, none⟩ = some (.int .i64 y.set.key.c) ∧ w'.cell? ⟨YBN, 3, none⟩ = some (.slice ua ul uc) ∧ w'.cell? ⟨YBN, 4, none⟩ = some (.int .i64 y.set.ttl) ∧ w'.cell? ⟨YBN, 5, none⟩ = some (.int .i64 y.u) ∧ w'.cell? ⟨YBN, 6, none⟩ = some (.int .i64 y.rank))) (exact T) ((first | (go_at_call 19; refine (told14_any _ _ _ _ _ _ _ _ _ _).mono ?_; rintro e w9 ⟨rfl, k5⟩; replace KK := Keeps.trans KK k5; replace T := HTX.out _ KK; clear k5) | (go_at_call 18; refine (HON.out _ KK).mono ?_; rintro e w9 ⟨rfl, k5⟩; replace KK := Keeps.trans KK k5; replace T := HTX.out _ KK; clear k5)))
        replace SC5 := hide (SC5.out.keeps KK)
        clear T HTX HON KK hbb
        replace SC5 : Hid (ScOk w (Value.pointer none) 0 0 KS LO (j + 1) s (.slice qa ql qc) zs w9) := ⟨SC5.out.sx, SC5.out.kb, SC5.out.rd, SC5.out.it, SC5.out.dz, SC5.out.lo, by have := SC5.out.ch; omega, SC5.out.k, SC5.out.sz⟩
        have SC6 := SC5
        have hl9 : zs.length ≤ 1000 := SC6.out.len
        have HK1 := hide (fun W (k : Keeps w9 W) => KeysX_any (Value.pointer none) 0 0 s W (SC6.out.sx.keeps k))
        have HK2 := hide (fun W (k : Keeps w9 W) => rKeys_any s.room s.changes (.slice qa ql qc) zs W (SC6.out.rd.keeps k) (by omega))
        rw [SC6.out.it] at HK2
        have HK4 := hide (fun W (k : Keeps w9 W) => ChangesX_any (Value.pointer none) 0 0 s W (SC6.out.sx.keeps k))
        have hkl : Hid ((Sto.keysL s.items).length ≤ 1000) := by rw [Hid, Sto.keysL_len]; exact SC6.out.sx.ok.2.2.2.2
        have HT : Hid (∀ w', Keeps w9 w' → w'.cell? ⟨KS, 0, none⟩ = some (.int .i64 s.room) ∧ w'.cell? ⟨KS, 1, none⟩ = some (.slice qa ql qc) ∧ w'.cell? ⟨KS, 2, none⟩ = some (.int .i64 s.changes)) := fun w' k => (SC6.out.kb.keeps k).three.1
        have T := HT.out _ (Keeps.refl w9).drew
        have KK : Keeps w9 w9.drew := (Keeps.refl w9).drew
        replace hl9 := hide hl9
        generalize Sto.keysL s.items = KL at *
        have HK3 := hide (fun W va vb (ha : ReadRow W va 3 (KL.map qnL)) (hb : ReadRow W vb 3 (KL.map qnL)) => refKeys13_any va vb KL KL W ha hb (by have := hkl.out; unfold maxLen; omega) (by have := hkl.out; unfold maxLen; omega))
        rw [decide_eq_true rfl] at HK3
        go_upto_region 33 with fail
        go_region_held3 (fun w' => w'.cell? ⟨KS, 0, none⟩ = some (.int .i64 s.room) ∧ w'.cell? ⟨KS, 1, none⟩ = some (.slice qa ql qc) ∧ w'.cell? ⟨KS, 2, none⟩ = some (.int .i64 s.changes)) (exact T) ((first | (go_at_call 25; refine (HK1.out _ KK).mono ?_; intro e wa hE; obtain ⟨vka, rfl, oa, ka⟩ := hE; have RA := hide oa.read; replace KK := Keeps.trans KK ka; replace T := HT.out _ KK; clear oa) | (go_at_call 26; refine (HK2.out _ KK).mono ?_; intro e wb hE; obtain ⟨vkb, rfl, ob, kb⟩ := hE; replace RA := hide (RA.out.keeps kb); have RB := hide ob.read; replace KK := Keeps.trans KK kb; replace T := HT.out _ KK; clear ob kb) | (go_at_call 24; refine (HK3.out _ _ _ RA.out RB.out).mono ?_; rintro e wc ⟨rfl, kc⟩; replace KK := Keeps.trans KK kc; replace T := HT.out _ KK; clear kc) | (go_at_call 27; refine (HK4.out _ KK).mono ?_; rintro e wd ⟨rfl, rfl⟩)))
        have SC7 := hide (SC6.out.keeps KK)
        clear T HT HK1 HK2 HK3 HK4 SC6 SC5 KK
        go_wp2_with fail
        go_roundw
        case rel => exact ⟨j + 1, by omega, by go_num, _, _, _, SC7.out⟩
        case measure => simp [intOf]; omega
      by_cases hd3 : z.d = 3
      · skip
        have hb0d : (z.d == 0) = false := by rw [beq_eq_false_iff_ne]; omega
        have hb1d : (z.d == 1) = false := by rw [beq_eq_false_iff_ne]; omega
        have hb2d : (z.d == 2) = false := by rw [beq_eq_false_iff_ne]; omega
        have hb3d : (z.d == 3) = true := by rw [hd3]; rfl
        replace hd3 := hide hd3
        have HRG := hide (rDrop_any s.room s.changes (.slice qa ql qc) zs z.set.key V1 SC.out.rd SC.out.fz (by have := SC.out.len; omega) (by rw [SC.out.it]; exact SC.out.sx.ok.1) hchj.out)
        obtain ⟨o0, o1, o2, o3, o4, o5, o6, o7⟩ := OB.out.c8
        obtain ⟨k0, k1, k2⟩ := SC.out.kb.three.1
        go_upto_region 29 with fail
        go_wp2_with fail
        refine (HRG.out).mono ?_
        intro e w2 hE
        obtain ⟨v', zs', rfl, rd', it', mem', no', kx⟩ := hE
        rw [SC.out.it] at it' ⊢
        have hC2 : Hid ((⟨s.room, Sto.without s.items z.set.key, if (Sto.find s.items z.set.key).isSome = true then s.changes + 1 else s.changes⟩ : Sto).room = s.room ∧ itemsZ zs' = (⟨s.room, Sto.without s.items z.set.key, if (Sto.find s.items z.set.key).isSome = true then s.changes + 1 else s.changes⟩ : Sto).items ∧ (⟨s.room, Sto.without s.items z.set.key, if (Sto.find s.items z.set.key).isSome = true then s.changes + 1 else s.changes⟩ : Sto).changes = (if (Sto.find s.items z.set.key).isSome = true then s.changes + 1 else s.changes) ∧ (⟨s.room, Sto.without s.items z.set.key, if (Sto.find s.items z.set.key).isSome = true then s.changes + 1 else s.changes⟩ : Sto).changes ≤ ((j + 1 : Nat) : Int)) := ⟨rfl, it', rfl, by show (if (Sto.find s.items z.set.key).isSome = true then s.changes + 1 else s.changes) ≤ _; have := SC.out.ch; split <;> omega⟩
        have HPX := hide (fun W (h : SX (fun g => g = KS) W (Value.pointer none) 0 0 s) => DropX_any (Value.pointer none) 0 0 s z.set.key W h hf2.out.1 hchj.out.2)
        generalize (⟨s.room, Sto.without s.items z.set.key, if (Sto.find s.items z.set.key).isSome = true then s.changes + 1 else s.changes⟩ : Sto) = s5 at *
        generalize (if (Sto.find s.items z.set.key).isSome = true then s.changes + 1 else s.changes) = CH at *
        generalize (Sto.find s.items z.set.key).isSome = E at *
        have hdz5 : Hid (∀ y ∈ zs', ReadS w y.2 y.1.set.ds) := fun y hy => SC.out.dz y (mem' y hy)
        obtain ⟨ya, yc, hvf⟩ := rd'.len
        rw [List.length_map] at hvf
        generalize hyl : zs'.length = yl at hvf
        replace hyl := hide hyl
        subst hvf
        have hlo : Hid (∀ a n c, Value.slice ya yl yc = .slice (some a) n c → LO ≤ a.block) := by
          rcases no' with h | h
          · rw [Hid, h]; exact SC.out.lo
          · exact fun a n c e => Nat.le_trans SC.out.sz (h a n c e)
        have RDY := hide rd'
        have SXC := hide (SC.out.sx.keeps kx)
        have KC := hide (SC.out.kb.keeps kx)
        have KK := hide (SC.out.k.trans kx)
        replace OB := hide (OB.out.keeps kx)
        have hs3 : Hid (LO ≤ w2.heap.size) := Nat.le_trans SC.out.sz kx.size
        clear SC rd' it' mem' no' kx
        have N9 := hide (Blk.made w2 #[.int .i64 s.room, .slice ya yl yc, .int .i64 CH] 29)
        have ka := (Keeps.refl w2).alloc (.cells #[.int .i64 s.room, .slice ya yl yc, .int .i64 CH] 29)
        replace SXC := hide (SXC.out.keeps ka)
        replace KC := hide (KC.out.keeps ka)
        replace KK := hide (KK.out.trans ka)
        replace OB := hide (OB.out.keeps ka)
        replace RDY := hide (RDY.out.keeps ka)
        replace hs3 := hide (Nat.le_trans hs3.out ka.size)
        clear ka o0 o1 o2 o3 o4 o5 o6 o7 k0 k1 k2 HRG
        go_upto_region 30 with fail
        generalize w2.alloc (.cells #[.int .i64 s.room, .slice ya yl yc, .int .i64 CH] 29) = W3 at *
        generalize w2.heap.size = NB9 at *
        obtain ⟨n0, n1, n2⟩ := N9.out.three.1
        obtain ⟨⟨k0, k1, k2⟩, ⟨f0, f1, f2⟩, _⟩ := KC.out.three
        go_upto_region 31 with fail
        have KC4 := hide (set3_blk KC.out (.int .i64 s.room) (.slice ya yl yc) (.int .i64 CH))
        have SX4 := hide (SXC.out.other (w' := set3 W3 KS (.int .i64 s.room) (.slice ya yl yc) (.int .i64 CH)) (Nat.le_of_eq (set3_size _ _ _ _ _).symm) (fun k _ hk => heap_set3 W3 KS _ _ _ k hk) hKSP.out)
        have KK4 := hide (set3_keeps KK.out hKSw.out (.int .i64 s.room) (.slice ya yl yc) (.int .i64 CH))
        have OB4 := hide (show Blk (set3 W3 KS (.int .i64 s.room) (.slice ya yl yc) (.int .i64 CH)) OBK _ _ from (heap_set3 W3 KS _ _ _ OBK hOK.out).trans OB.out)
        have RD4 := hide (RDY.out.set3 (G := KS) (fun a n k e => by have h1 := hlo.out a n k e; have h2 := hKL.out; omega) (.int .i64 s.room) (.slice ya yl yc) (.int .i64 CH))
        have hs4 : Hid (LO ≤ (set3 W3 KS (.int .i64 s.room) (.slice ya yl yc) (.int .i64 CH)).heap.size) := by rw [Hid, set3_size]; exact hs3.out
        unfold set3 at KC4 SX4 KK4 OB4 RD4 hs4
        generalize ((W3.setCell ⟨KS, 0, none⟩ (.int .i64 s.room)).setCell ⟨KS, 1, none⟩ (.slice ya yl yc)).setCell ⟨KS, 2, none⟩ (.int .i64 CH) = W4 at *
        clear n0 n1 n2 k0 k1 k2 f0 f1 f2 KC SXC KK OB RDY hs3 N9
        obtain ⟨o0, o1, o2, o3, o4, o5, o6, o7⟩ := OB4.out.c8
        go_wp2_with fail
        refine (HPX.out _ SX4.out).mono ?_
        intro e V9 hE
        obtain ⟨rfl, sx5, kx5⟩ := hE
        have hbe : (E != E) = false := by cases E <;> rfl
        have KC5 := hide (kx5.blk KC4.out (fun h => ⟨(hPM.out h).2.2.2.2.1, (hPM.out h).2.2.2.2.2⟩))
        have RD5 := hide (kx5.row RD4.out (fun h a n k e => by have h1 := hlo.out a n k e; have h2 := hPM.out h; exact ⟨by omega, by omega, by omega⟩))
        have K5 := hide (show Keeps w V9 from Below.trans KK4.out (kx5.below (fun h => ⟨(hPM.out h).1, (hPM.out h).2.1⟩) KK4.out.size))
        have SC5 := hide (show ScOk w (Value.pointer none) 0 0 KS LO (j + 1) s5 (.slice ya yl yc) zs' V9 from ⟨sx5, by rw [hC2.out.1, hC2.out.2.2.1]; exact KC5.out, RD5.out, hC2.out.2.1, hdz5.out, hlo.out, hC2.out.2.2.2, K5.out, Nat.le_trans hs4.out kx5.2.size⟩)
        clear KC5 RD5 K5 sx5 kx5 KC4 SX4 KK4 OB4 RD4 hs4 o0 o1 o2 o3 o4 o5 o6 o7 hC2 hdz5 hlo
        have SC6 := SC5
        have hl5 : zs'.length ≤ 1000 := SC6.out.len
        have HK1 := hide (fun W (k : Keeps V9 W) => KeysX_any (Value.pointer none) 0 0 s5 W (SC6.out.sx.keeps k))
        have HK2 := hide (fun W (k : Keeps V9 W) => rKeys_any s5.room s5.changes (.slice ya yl yc) zs' W (SC6.out.rd.keeps k) (by omega))
        rw [SC6.out.it] at HK2
        have HK4 := hide (fun W (k : Keeps V9 W) => ChangesX_any (Value.pointer none) 0 0 s5 W (SC6.out.sx.keeps k))
        have hkl : Hid ((Sto.keysL s5.items).length ≤ 1000) := by rw [Hid, Sto.keysL_len]; exact SC6.out.sx.ok.2.2.2.2
        have HT : Hid (∀ w', Keeps V9 w' → w'.cell? ⟨KS, 0, none⟩ = some (.int .i64 s5.room) ∧ w'.cell? ⟨KS, 1, none⟩ = some (.slice ya yl yc) ∧ w'.cell? ⟨KS, 2, none⟩ = some (.int .i64 s5.changes)) := fun w' k => (SC6.out.kb.keeps k).three.1
        have T := HT.out _ (Keeps.refl V9).drew
        have KK : Keeps V9 V9.drew := (Keeps.refl V9).drew
        replace hl5 := hide hl5
        generalize Sto.keysL s5.items = KL at *
        have HK3 := hide (fun W va vb (ha : ReadRow W va 3 (KL.map qnL)) (hb : ReadRow W vb 3 (KL.map qnL)) => refKeys13_any va vb KL KL W ha hb (by have := hkl.out; unfold maxLen; omega) (by have := hkl.out; unfold maxLen; omega))
        rw [decide_eq_true rfl] at HK3
        go_upto_region 33 with fail
        go_region_held3 (fun w' => w'.cell? ⟨KS, 0, none⟩ = some (.int .i64 s5.room) ∧ w'.cell? ⟨KS, 1, none⟩ = some (.slice ya yl yc) ∧ w'.cell? ⟨KS, 2, none⟩ = some (.int .i64 s5.changes)) (exact T) ((first | (go_at_call 25; refine (HK1.out _ KK).mono ?_; intro e wa hE; obtain ⟨vka, rfl, oa, ka⟩ := hE; have RA := hide oa.read; replace KK := Keeps.trans KK ka; replace T := HT.out _ KK; clear oa) | (go_at_call 26; refine (HK2.out _ KK).mono ?_; intro e wb hE; obtain ⟨vkb, rfl, ob, kb⟩ := hE; replace RA := hide (RA.out.keeps kb); have RB := hide ob.read; replace KK := Keeps.trans KK kb; replace T := HT.out _ KK; clear ob kb) | (go_at_call 24; refine (HK3.out _ _ _ RA.out RB.out).mono ?_; rintro e wc ⟨rfl, kc⟩; replace KK := Keeps.trans KK kc; replace T := HT.out _ KK; clear kc) | (go_at_call 27; refine (HK4.out _ KK).mono ?_; rintro e wd ⟨rfl, rfl⟩)))
        have SC7 := hide (SC6.out.keeps KK)
        clear T HT HK1 HK2 HK3 HK4 SC6 SC5 KK
        go_wp2_with fail
        go_roundw
        case rel => exact ⟨j + 1, by omega, by go_num, _, _, _, SC7.out⟩
        case measure => simp [intOf]; omega
      skip
      have hb0d : (z.d == 0) = false := by rw [beq_eq_false_iff_ne]; omega
      have hb1d : (z.d == 1) = false := by rw [beq_eq_false_iff_ne]; omega
      have hb2d : (z.d == 2) = false := by rw [beq_eq_false_iff_ne]; omega
      have hb3d : (z.d == 3) = false := by rw [beq_eq_false_iff_ne]; omega
      obtain ⟨o0, o1, o2, o3, o4, o5, o6, o7⟩ := OB.out.c8
      have SC5 : Hid (ScOk w (Value.pointer none) 0 0 KS LO (j + 1) s (.slice qa ql qc) zs V1) := ⟨SC.out.sx, SC.out.kb, SC.out.rd, SC.out.it, SC.out.dz, SC.out.lo, by have := SC.out.ch; omega, SC.out.k, SC.out.sz⟩
      clear SC
      have SC6 := SC5
      have hl9 : zs.length ≤ 1000 := SC6.out.len
      have HK1 := hide (fun W (k : Keeps V1 W) => KeysX_any (Value.pointer none) 0 0 s W (SC6.out.sx.keeps k))
      have HK2 := hide (fun W (k : Keeps V1 W) => rKeys_any s.room s.changes (.slice qa ql qc) zs W (SC6.out.rd.keeps k) (by omega))
      rw [SC6.out.it] at HK2
      have HK4 := hide (fun W (k : Keeps V1 W) => ChangesX_any (Value.pointer none) 0 0 s W (SC6.out.sx.keeps k))
      have hkl : Hid ((Sto.keysL s.items).length ≤ 1000) := by rw [Hid, Sto.keysL_len]; exact SC6.out.sx.ok.2.2.2.2
      have HT : Hid (∀ w', Keeps V1 w' → w'.cell? ⟨KS, 0, none⟩ = some (.int .i64 s.room) ∧ w'.cell? ⟨KS, 1, none⟩ = some (.slice qa ql qc) ∧ w'.cell? ⟨KS, 2, none⟩ = some (.int .i64 s.changes)) := fun w' k => (SC6.out.kb.keeps k).three.1
      have T := HT.out _ (Keeps.refl V1).drew
      have KK : Keeps V1 V1.drew := (Keeps.refl V1).drew
      replace hl9 := hide hl9
      generalize Sto.keysL s.items = KL at *
      have HK3 := hide (fun W va vb (ha : ReadRow W va 3 (KL.map qnL)) (hb : ReadRow W vb 3 (KL.map qnL)) => refKeys13_any va vb KL KL W ha hb (by have := hkl.out; unfold maxLen; omega) (by have := hkl.out; unfold maxLen; omega))
      rw [decide_eq_true rfl] at HK3
      go_upto_region 33 with fail
      go_region_held3 (fun w' => w'.cell? ⟨KS, 0, none⟩ = some (.int .i64 s.room) ∧ w'.cell? ⟨KS, 1, none⟩ = some (.slice qa ql qc) ∧ w'.cell? ⟨KS, 2, none⟩ = some (.int .i64 s.changes)) (exact T) ((first | (go_at_call 25; refine (HK1.out _ KK).mono ?_; intro e wa hE; obtain ⟨vka, rfl, oa, ka⟩ := hE; have RA := hide oa.read; replace KK := Keeps.trans KK ka; replace T := HT.out _ KK; clear oa) | (go_at_call 26; refine (HK2.out _ KK).mono ?_; intro e wb hE; obtain ⟨vkb, rfl, ob, kb⟩ := hE; replace RA := hide (RA.out.keeps kb); have RB := hide ob.read; replace KK := Keeps.trans KK kb; replace T := HT.out _ KK; clear ob kb) | (go_at_call 24; refine (HK3.out _ _ _ RA.out RB.out).mono ?_; rintro e wc ⟨rfl, kc⟩; replace KK := Keeps.trans KK kc; replace T := HT.out _ KK; clear kc) | (go_at_call 27; refine (HK4.out _ KK).mono ?_; rintro e wd ⟨rfl, rfl⟩)))
      have SC7 := hide (SC6.out.keeps KK)
      clear T HT HK1 HK2 HK3 HK4 SC6 SC5 KK
      go_wp2_with fail
      go_roundw
      case rel => exact ⟨j + 1, by omega, by go_num, _, _, _, SC7.out⟩
      case measure => simp [intOf]; omega

    · have i2 : ¬ (j : Int) < (os.length : Int) := by omega
      have K9 := hide SC.out.k
      clear SC HALL HDS RD hlt
      go_wp2_with fail
      refine (live14_any _).mono ?_
      rintro e wz ⟨rfl, kz⟩
      go_wp2
      go_ret
      exact ⟨rfl, K9.out.trans kz⟩
end Go.Proofs.Ytdlaepfnogmebaa
