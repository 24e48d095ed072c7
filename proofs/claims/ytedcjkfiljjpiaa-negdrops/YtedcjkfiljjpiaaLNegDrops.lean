/- NegDrops answers true, for every input: the walk. (Made by tools/gennegold.py.) -/
import Derived.Test.YtedcjkfiljjpiaaLNegA
import Derived.Test.YtedcjkfiljjpiaaLNegS
import Derived.Test.YtedcjkfiljjpiaaNgX
import Derived.Deep.RegionHeld3
namespace Go.Proofs.Ytedcjkfiljjpiaa
open Go.RowKit

theorem TellNOk.form2 {w : World} {B : Nat} {oi : Option Ni} {vi : Value} (h : TellNOk w B oi vi) {p m : Nat} (hp : p < B) (hm : m < B) : ∃ x a n c, vi = niV x (.slice a n c) ∧ x = oi.getD noNi ∧ ReadS w (.slice a n c) x.soa.ds ∧ Apart (.slice a n c) p m := by
  cases oi with
  | none => exact ⟨noNi, none, 0, 0, h, rfl, ReadS.none, Apart.none _ _ _ _⟩
  | some i =>
    obtain ⟨vd, rfl, ho⟩ := h
    obtain ⟨a, c, rfl⟩ := ho.form
    exact ⟨i, _, _, _, rfl, rfl, readS_of_tv ho.read, ho.apart hp hm⟩
set_option maxHeartbeats 32000000 in
set_option maxRecDepth 100000 in
theorem NegDrops_yes (HLV : ∀ w, Calls Try.prog 9 #[] w fun e w' => e = .returned (.bool true) ∧ Keeps w w') (zs : List (Op15 × Value)) (va : Option Addr) (vc : Nat) (name : ByteArray) (q : Qn) (w : World) (hv : Ops15At w (.slice va zs.length vc) zs) (hqq : QnFine q) (h60 : (zs.length : Int) ≤ 60) (hds : ∀ z ∈ zs, z.1.soa.ds.length ≤ 1000000) (x0 : ¬ (300 : Int) < (q.n.size : Int)) (x1 : ¬ (300 : Int) < (name.size : Int)) (hsm : small15 zs 60 = true) :
    Calls Try.prog 7 #[.slice va zs.length vc, .string name, .agg #[.string q.n, .int .i64 q.t, .int .i64 q.c]] w fun e w' => e = .returned (.bool true) ∧ Keeps w w' := by
  have HSM := hide (fun W (k : Keeps w W) => small15_any _ zs 60 W ⟨hv.1.keeps k, fun z hz => ⟨(hv.2.1 z hz).1, (hv.2.1 z hz).2.keeps k⟩, hv.2.2⟩)
  rw [hsm] at HSM
  obtain ⟨hrd, hall, hlen⟩ := hv
  have RD := hide hrd
  have HALL := hide hall
  have HDS := hide hds
  have hq := hide hqq
  have HL := hide HLV
  have HX : Hid True := trivial
  clear hrd hall hlen hds hsm hqq HLV
  have B := hide (Blk.made w #[.string q.n, .int .i64 q.t, .int .i64 q.c] 32)
  have K := hide ((Keeps.refl w).alloc (.cells #[.string q.n, .int .i64 q.t, .int .i64 q.c] 32))
  go_enter Try.func7, Try.ntmps7
  go_upto_region 1 with fail
  generalize w.alloc (.cells #[.string q.n, .int .i64 q.t, .int .i64 q.c] 32) = W at *
  generalize hF : w.heap.size = F at B ⊢
  replace hF := hide hF
  have hFW : Hid (F < W.heap.size) := B.out.lt
  go_wp2_with fail
  refine (HSM.out _ K.out).mono ?_
  rintro e w1 ⟨rfl, k1⟩
  replace B := hide (B.out.keeps k1)
  replace K := hide (K.out.trans k1)
  have hF1 : Hid (F < w1.heap.size) := B.out.lt
  clear k1 HSM hFW
  obtain ⟨q0, q1, q2⟩ := B.out.three.1
  go_wp2_with fail
  refine (NewN_yes 50 _ (by decide) (by decide)).mono ?_
  intro e w2 hE
  obtain ⟨p, m, rfl, hp, hm, hS, k2⟩ := hE
  have hpw : Hid (w.heap.size ≤ p ∧ w.heap.size ≤ m) := by have := K.out.size; rw [Hid]; omega
  have hFp : Hid (F ≠ p ∧ F ≠ m) := by have := hF1.out; rw [Hid]; omega
  have S := hide hS
  replace B := hide (B.out.keeps k2)
  replace K := hide (K.out.trans k2)
  clear hS k2 hp hm q0 q1 q2 hF1
  go_wp2_with fail
  go_loopw [8, 9] (fun nowv i wr => ∃ (j : Nat) (s : Ngs) (t : Int), j ≤ zs.length ∧ i = .int .i64 j ∧ nowv = .int .i64 t ∧ Hid (NAt wr p m s) ∧ Hid (s.changes ≤ j) ∧ Hid (Ng.Inv s) ∧ Hid (Blk wr F #[.string q.n, .int .i64 q.t, .int .i64 q.c] 32) ∧ Hid (Keeps w wr)) (fun nowv i _ => zs.length - (intOf i).toNat)
  case atStart => exact ⟨0, _, 0, by omega, rfl, rfl, S, by simp [Hid], Ng.inv_nil _, B, K⟩
  case round =>
    clear S K B
    obtain ⟨j, s, t, hj, rfl, rfl, S, HC, HI, B, K⟩ := hrel
    by_cases hlt : j < zs.length
    · have i2 : (j : Int) < (zs.length : Int) := by omega
      have i0 : (0 : Int) ≤ (j : Int) := by omega
      have hv2 := RD.out.keeps K.out
      obtain ⟨b, off, rfl, hbl, _⟩ := RD.out.parts (by rw [List.length_map]; omega)
      obtain ⟨c0, c1, c2, c3, c4, c5, c6, c7, c8, c9, c10⟩ := row11 hv2 hlt
      obtain ⟨⟨hf0, hf1, hf2, _, hf4⟩, hdr⟩ := HALL.out _ (List.getElem_mem hlt)
      have hd6 := HDS.out _ (List.getElem_mem hlt)
      generalize hoo : off + j * 11 = o at *
      generalize zs[j] = z at *
      obtain ⟨z, zd⟩ := z
      obtain ⟨da, dc, hzd⟩ := hdr.len
      simp only at hzd hd6 hf4
      subst hzd
      simp only at c0 c1 c2 c3 c4 c5 c6 c7 c8 c9 c10
      have HPUT := hide (fun W (kk : Keeps wr.drew W) => PutN_some p m s z.now z.key z.nx (.agg #[.string z.soa.key.n, .int .i64 z.soa.key.t, .int .i64 z.soa.key.c, .slice da z.soa.ds.length dc, .int .i64 z.soa.ttl]) z.soa W ⟨_, rfl, hdr.keeps ((K.out.drew).trans kk)⟩ hf1 hf0 (S.out.keeps ((Keeps.refl wr).drew.trans kk)) hf2 hd6 (by have := HC.out; omega))
      have HT := hide (fun w' (kk : KB p m wr.drew w') => (⟨(kk.cell (x := ⟨b, o + 1, none⟩) (by have := K.out.size; show b < wr.heap.size; omega) (by have := hpw.out; show b ≠ p; omega) (by have := hpw.out; show b ≠ m; omega)).trans c1, (kk.cell (x := ⟨b, o + 2, none⟩) (by have := K.out.size; show b < wr.heap.size; omega) (by have := hpw.out; show b ≠ p; omega) (by have := hpw.out; show b ≠ m; omega)).trans c2, (kk.cell (x := ⟨b, o + 3, none⟩) (by have := K.out.size; show b < wr.heap.size; omega) (by have := hpw.out; show b ≠ p; omega) (by have := hpw.out; show b ≠ m; omega)).trans c3, (kk.cell (x := ⟨b, o + 4, none⟩) (by have := K.out.size; show b < wr.heap.size; omega) (by have := hpw.out; show b ≠ p; omega) (by have := hpw.out; show b ≠ m; omega)).trans c4, (kk.cell (x := ⟨b, o + 5, none⟩) (by have := K.out.size; show b < wr.heap.size; omega) (by have := hpw.out; show b ≠ p; omega) (by have := hpw.out; show b ≠ m; omega)).trans c5, (kk.cell (x := ⟨b, o + 6, none⟩) (by have := K.out.size; show b < wr.heap.size; omega) (by have := hpw.out; show b ≠ p; omega) (by have := hpw.out; show b ≠ m; omega)).trans c6, (kk.cell (x := ⟨b, o + 7, none⟩) (by have := K.out.size; show b < wr.heap.size; omega) (by have := hpw.out; show b ≠ p; omega) (by have := hpw.out; show b ≠ m; omega)).trans c7, (kk.cell (x := ⟨b, o + 8, none⟩) (by have := K.out.size; show b < wr.heap.size; omega) (by have := hpw.out; show b ≠ p; omega) (by have := hpw.out; show b ≠ m; omega)).trans c8, (kk.cell (x := ⟨b, o + 9, none⟩) (by have := K.out.size; show b < wr.heap.size; omega) (by have := hpw.out; show b ≠ p; omega) (by have := hpw.out; show b ≠ m; omega)).trans c9, (kk.cell (x := ⟨b, o + 10, none⟩) (by have := K.out.size; show b < wr.heap.size; omega) (by have := hpw.out; show b ≠ p; omega) (by have := hpw.out; show b ≠ m; omega)).trans c10⟩ : w'.cell? ⟨b, o + 1, none⟩ = some (.int .i64 z.now) ∧ w'.cell? ⟨b, o + 2, none⟩ = some (.string z.key.n) ∧ w'.cell? ⟨b, o + 3, none⟩ = some (.int .i64 z.key.t) ∧ w'.cell? ⟨b, o + 4, none⟩ = some (.int .i64 z.key.c) ∧ w'.cell? ⟨b, o + 5, none⟩ = some (.bool z.nx) ∧ w'.cell? ⟨b, o + 6, none⟩ = some (.string z.soa.key.n) ∧ w'.cell? ⟨b, o + 7, none⟩ = some (.int .i64 z.soa.key.t) ∧ w'.cell? ⟨b, o + 8, none⟩ = some (.int .i64 z.soa.key.c) ∧ w'.cell? ⟨b, o + 9, none⟩ = some (.slice da z.soa.ds.length dc) ∧ w'.cell? ⟨b, o + 10, none⟩ = some (.int .i64 z.soa.ttl)))
      have T := HT.out _ (KB.refl _ _ _)
      have KK : Keeps wr.drew wr.drew := Keeps.refl _
      have hf4h := hide hf4
      clear c0 c1 c2 c3 c4 c5 c6 c7 c8 c9 c10 hv2 hdr hf0 hf1 hf2 hf4 HX
      go_wp2_with fail
      go_region_held3 (fun w' => w'.cell? ⟨b, o + 1, none⟩ = some (.int .i64 z.now) ∧ w'.cell? ⟨b, o + 2, none⟩ = some (.string z.key.n) ∧ w'.cell? ⟨b, o + 3, none⟩ = some (.int .i64 z.key.t) ∧ w'.cell? ⟨b, o + 4, none⟩ = some (.int .i64 z.key.c) ∧ w'.cell? ⟨b, o + 5, none⟩ = some (.bool z.nx) ∧ w'.cell? ⟨b, o + 6, none⟩ = some (.string z.soa.key.n) ∧ w'.cell? ⟨b, o + 7, none⟩ = some (.int .i64 z.soa.key.t) ∧ w'.cell? ⟨b, o + 8, none⟩ = some (.int .i64 z.soa.key.c) ∧ w'.cell? ⟨b, o + 9, none⟩ = some (.slice da z.soa.ds.length dc) ∧ w'.cell? ⟨b, o + 10, none⟩ = some (.int .i64 z.soa.ttl)) (exact T) ((go_at_call 15; refine (HPUT.out _ KK).mono ?_; intro e w5 hE; obtain ⟨cc, s5, rfl, S5, E5, kb5⟩ := hE; replace T := HT.out _ ((KB.of KK).trans kb5)))
      have S6 := hide S5
      have C6 : Hid (s5.changes ≤ ((j + 1 : Nat) : Int)) := by have h1 := HC.out; have h2 := (Ng.changes_put s z.now z.key z.nx z.soa).1; rw [← E5] at h2; rw [Hid]; omega
      have I6 : Hid (Ng.Inv s5) := by rw [Hid, E5]; exact Ng.inv_put HI.out _ _ _ _
      have K6 := hide (show Keeps w w5 from Below.trans (K.out.drew.trans KK) (kb5.below hpw.out.1 hpw.out.2 (K.out.drew.trans KK).size))
      have B6 := hide (((B.out.drew.keeps KK)).kb hFp.out.1 hFp.out.2 kb5)
      obtain ⟨c1, c2, c3, c4, c5, c6, c7, c8, c9, c10⟩ := T
      clear HT HPUT S5 E5 kb5 KK
      go_wp2_with fail
      go_roundw
      case rel => exact ⟨j + 1, s5, max t z.now, by omega, by go_num, rfl, S6, C6, I6, B6, K6⟩
      case measure => simp [intOf]; omega
    · have i2 : ¬ (j : Int) < (zs.length : Int) := by omega
      have hks := hide (keysN_small S.out.ok)
      have hdc := hide (Ng.drop_count s name)
      have hfd := hide (Ng.find_dropped s name t q)
      have hln : Hid (∀ i, Ng.findN s t q = some i → i.soa.ds.length ≤ 1099511627776) := fun i hi => by
        have : i ∈ s.items := by
          unfold Ng.findN at hi
          cases h1 : Ng.liveN s t ⟨q.n, 0, q.c⟩ with
          | some a =>
            rw [h1] at hi
            simp only [Option.some_or, Option.some.injEq] at hi
            rw [← hi]
            exact (Ng.find_key (Ng.live_some h1).1).1
          | none =>
            rw [h1, Option.none_or] at hi
            exact (Ng.find_key (Ng.live_some hi).1).1
        have := (S.out.ok.fine i this).2.2.2.1
        omega
      have hch : s.changes ≤ 1099511627776 := by have := HC.out; omega
      clear HALL HDS RD hlt HC HI HX
      obtain ⟨q0, q1, q2⟩ := B.out.three.1
      go_wp2_with fail
      refine (Find_any p m _ t q _ S.out hq.out).mono ?_
      intro e w6 hE
      obtain ⟨vi, rfl, ht, k1⟩ := hE
      have hSL := (S.out).lt
      obtain ⟨x, xa, xn, xc, rfl, hx, hr, hap0⟩ := ht.form2 hSL.1 hSL.2
      replace hx := hide hx
      have k2 := (Keeps.refl w6).alloc (.cells #[.string x.key.n, .int .i64 x.key.t, .int .i64 x.key.c, .bool x.nx, .string x.soa.key.n, .int .i64 x.soa.key.t, .int .i64 x.soa.key.c, .slice xa xn xc, .int .i64 x.soa.ttl, .int .i64 x.u] 48)
      have X := hide (Blk.made w6 #[.string x.key.n, .int .i64 x.key.t, .int .i64 x.key.c, .bool x.nx, .string x.soa.key.n, .int .i64 x.soa.key.t, .int .i64 x.soa.key.c, .slice xa xn xc, .int .i64 x.soa.ttl, .int .i64 x.u] 48)
      have XR := hide (hr.keeps k2)
      have hXA : Hid (Apart (.slice xa xn xc) p m) := hap0
      have hXp : Hid (w6.heap.size ≠ p ∧ w6.heap.size ≠ m) := by have h1 := (S.out.keeps k1).lt; rw [Hid]; omega
      replace B := hide (B.out.keeps (k1.trans k2))
      replace S := hide (S.out.keeps (k1.trans k2))
      replace K := hide (K.out.trans (k1.trans k2))
      clear k1 k2 hr ht q0 q1 q2
      unfold niV
      go_upto_region 13 with fail
      generalize w6.alloc (.cells #[.string x.key.n, .int .i64 x.key.t, .int .i64 x.key.c, .bool x.nx, .string x.soa.key.n, .int .i64 x.soa.key.t, .int .i64 x.soa.key.c, .slice xa xn xc, .int .i64 x.soa.ttl, .int .i64 x.u] 48) = W6 at *
      generalize w6.heap.size = xb at *
      generalize hL1 : (Ng.findN s t q).isSome = L1 at *
      replace hL1 := hide hL1
      go_wp2_with fail
      refine (KeysN_any p m s _ S.out).mono ?_
      intro e w7 hE
      obtain ⟨vk, rfl, ok, k1⟩ := hE
      obtain ⟨ka, kc, rfl⟩ := ok.form
      rw [List.length_map]
      replace B := hide (B.out.keeps k1)
      replace S := hide (S.out.keeps k1)
      replace X := hide (X.out.keeps k1)
      replace XR := hide (XR.out.keeps k1)
      replace K := hide (K.out.trans k1)
      clear ok k1
      go_wp2_with fail
      refine (DropN_any p m s name _ S.out hch).mono ?_
      intro e w8 hE
      obtain ⟨rfl, hS, kb⟩ := hE
      have hK8 : Hid (Keeps w w8) := show Keeps w w8 from Below.trans K.out (kb.below hpw.out.1 hpw.out.2 K.out.size)
      replace B := hide (B.out.kb hFp.out.1 hFp.out.2 kb)
      replace X := hide (X.out.kb hXp.out.1 hXp.out.2 kb)
      replace XR := hide (XR.out.kb (hXA.out) kb)
      replace S := hide hS
      replace K := hK8
      clear hS kb hK8 hch
      generalize hGN : Ng.gone s name = GN at *
      replace hGN := hide hGN
      generalize hSD : Ng.drop s name = SD at *
      replace hSD := hide hSD
      go_upto_region 15 with fail
      obtain ⟨q0, q1, q2⟩ := B.out.three.1
      go_wp2_with fail
      refine (Find_any p m _ t q _ S.out hq.out).mono ?_
      intro e w9 hE
      obtain ⟨vi, rfl, ht, k1⟩ := hE
      obtain ⟨y, ya, yn, yc, rfl, hy, hr⟩ := ht.form
      replace hy := hide hy
      have k2 := (Keeps.refl w9).alloc (.cells #[.string y.key.n, .int .i64 y.key.t, .int .i64 y.key.c, .bool y.nx, .string y.soa.key.n, .int .i64 y.soa.key.t, .int .i64 y.soa.key.c, .slice ya yn yc, .int .i64 y.soa.ttl, .int .i64 y.u] 48)
      have Y := hide (Blk.made w9 #[.string y.key.n, .int .i64 y.key.t, .int .i64 y.key.c, .bool y.nx, .string y.soa.key.n, .int .i64 y.soa.key.t, .int .i64 y.soa.key.c, .slice ya yn yc, .int .i64 y.soa.ttl, .int .i64 y.u] 48)
      have YR := hide (hr.keeps k2)
      have hYp : Hid (w9.heap.size ≠ p ∧ w9.heap.size ≠ m) := by have h1 := (S.out.keeps k1).lt; rw [Hid]; omega
      replace X := hide (X.out.keeps (k1.trans k2))
      replace XR := hide (XR.out.keeps (k1.trans k2))
      replace B := hide (B.out.keeps (k1.trans k2))
      replace S := hide (S.out.keeps (k1.trans k2))
      replace K := hide (K.out.trans (k1.trans k2))
      clear k1 k2 hr ht q0 q1 q2
      unfold niV
      go_upto_region 16 with fail
      generalize w9.alloc (.cells #[.string y.key.n, .int .i64 y.key.t, .int .i64 y.key.c, .bool y.nx, .string y.soa.key.n, .int .i64 y.soa.key.t, .int .i64 y.soa.key.c, .slice ya yn yc, .int .i64 y.soa.ttl, .int .i64 y.u] 48) = W9 at *
      generalize w9.heap.size = yb at *
      generalize hL2 : (Ng.findN SD t q).isSome = L2 at *
      replace hL2 := hide hL2
      go_wp2_with fail
      refine (KeysN_any p m SD _ S.out).mono ?_
      intro e w10 hE
      obtain ⟨vk, rfl, ok, k1⟩ := hE
      obtain ⟨ka2, kc2, rfl⟩ := ok.form
      rw [List.length_map]
      replace B := hide (B.out.keeps k1)
      replace X := hide (X.out.keeps k1)
      replace XR := hide (XR.out.keeps k1)
      replace Y := hide (Y.out.keeps k1)
      replace YR := hide (YR.out.keeps k1)
      replace K := hide (K.out.trans k1)
      clear ok k1 S
      generalize (Ng.keys SD).length = kd at *
      have hkd : ((kd : Int) + (GN : Int)) = ((Ng.keys s).length : Int) := by have := hdc.out; omega
      have hks' := hks.out
      generalize (Ng.keys s).length = kk at *
      have hwk : IntKind.i64.wrap ((kd : Int) + (GN : Int)) = (kk : Int) := by rw [IntKind.wrap_i64]; omega
      have hne : ((kk : Int) != (kk : Int)) = false := by simp
      have hg0 : ¬ (GN : Int) < 0 := by omega
      clear hks hks' hdc hkd
      obtain ⟨q0, q1, q2⟩ := B.out.three.1
      by_cases he : q.n = name
      · have hb : (q.n.toList == name.toList) = true := by rw [toList_beq, decide_eq_true he]
        have h2 : L2 = false := by rw [← hL2.out, hfd.out, if_pos he]; rfl
        subst h2
        clear he hfd hL1 hL2 hx hy
        go_wp2_with fail
        refine (HL.out _).mono ?_
        rintro e wz ⟨rfl, kz⟩
        replace K := hide (K.out.trans kz)
        clear kz
        go_wp2
        go_ret
        exact ⟨rfl, K.out⟩
      · have hb : (q.n.toList == name.toList) = false := by rw [toList_beq, decide_eq_false he]
        have hE := hfd.out
        rw [if_neg he] at hE
        have h2 : L2 = L1 := by rw [← hL2.out, ← hL1.out, hE]
        have hyx : y = x := by rw [hy.out, hx.out, hE]
        subst h2
        rw [hyx] at Y YR
        have hbb := beq_bool L2
        have hl1 : Hid (x.soa.ds.length ≤ 1099511627776) := by
          rw [Hid, hx.out]
          cases hf : Ng.findN s t q with
          | none => show (0 : Nat) ≤ _; omega
          | some i => exact hln.out i hf
        clear he hfd hE hL1 hL2 hx hy hyx hln
        go_upto_region 20 with fail
        have HT : Hid (∀ w', Keeps w10 w' → (w'.cell? ⟨xb, 0, none⟩ = some (.string x.key.n) ∧ w'.cell? ⟨xb, 1, none⟩ = some (.int .i64 x.key.t) ∧ w'.cell? ⟨xb, 2, none⟩ = some (.int .i64 x.key.c) ∧ w'.cell? ⟨xb, 3, none⟩ = some (.bool x.nx) ∧ w'.cell? ⟨xb, 4, none⟩ = some (.string x.soa.key.n) ∧ w'.cell? ⟨xb, 5, none⟩ = some (.int .i64 x.soa.key.t) ∧ w'.cell? ⟨xb, 6, none⟩ = some (.int .i64 x.soa.key.c) ∧ w'.cell? ⟨xb, 7, none⟩ = some (.slice xa xn xc) ∧ w'.cell? ⟨xb, 8, none⟩ = some (.int .i64 x.soa.ttl) ∧ w'.cell? ⟨xb, 9, none⟩ = some (.int .i64 x.u)) ∧ (w'.cell? ⟨yb, 0, none⟩ = some (.string x.key.n) ∧ w'.cell? ⟨yb, 1, none⟩ = some (.int .i64 x.key.t) ∧ w'.cell? ⟨yb, 2, none⟩ = some (.int .i64 x.key.c) ∧ w'.cell? ⟨yb, 3, none⟩ = some (.bool x.nx) ∧ w'.cell? ⟨yb, 4, none⟩ = some (.string x.soa.key.n) ∧ w'.cell? ⟨yb, 5, none⟩ = some (.int .i64 x.soa.key.t) ∧ w'.cell? ⟨yb, 6, none⟩ = some (.int .i64 x.soa.key.c) ∧ w'.cell? ⟨yb, 7, none⟩ = some (.slice ya yn yc) ∧ w'.cell? ⟨yb, 8, none⟩ = some (.int .i64 x.soa.ttl) ∧ w'.cell? ⟨yb, 9, none⟩ = some (.int .i64 x.u))) := fun w' k => ⟨(X.out.keeps k).ten.1, (Y.out.keeps k).ten.1⟩
        have HON := hide (fun W (k : Keeps w10 W) => One15_same (.slice xa xn xc) (.slice ya yn yc) x W (XR.out.keeps k) (YR.out.keeps k) hl1.out)
        unfold niV at HON
        clear X Y XR YR hl1 q0 q1 q2
        have T := HT.out _ (Keeps.refl w10).drew
        have KK : Keeps w10 w10.drew := (Keeps.refl w10).drew
        go_region_held3 (fun w' => (w'.cell? ⟨xb, 0, none⟩ = some (.string x.key.n) ∧ w'.cell? ⟨xb, 1, none⟩ = some (.int .i64 x.key.t) ∧ w'.cell? ⟨xb, 2, none⟩ = some (.int .i64 x.key.c) ∧ w'.cell? ⟨xb, 3, none⟩ = some (.bool x.nx) ∧ w'.cell? ⟨xb, 4, none⟩ = some (.string x.soa.key.n) ∧ w'.cell? ⟨xb, 5, none⟩ = some (.int .i64 x.soa.key.t) ∧ w'.cell? ⟨xb, 6, none⟩ = some (.int .i64 x.soa.key.c) ∧ w'.cell? ⟨xb, 7, none⟩ = some (.slice xa xn xc) ∧ w'.cell? ⟨xb, 8, none⟩ = some (.int .i64 x.soa.ttl) ∧ w'.cell? ⟨xb, 9, none⟩ = some (.int .i64 x.u)) ∧ (w'.cell? ⟨yb, 0, none⟩ = some (.string x.key.n) ∧ w'.cell? ⟨yb, 1, none⟩ = some (.int .i64 x.key.t) ∧ w'.cell? ⟨yb, 2, none⟩ = some (.int .i64 x.key.c) ∧ w'.cell? ⟨yb, 3, none⟩ = some (.bool x.nx) ∧ w'.cell? ⟨yb, 4, none⟩ = some (.string x.soa.key.n) ∧ w'.cell? ⟨yb, 5, none⟩ = some (.int .i64 x.soa.key.t) ∧ w'.cell? ⟨yb, 6, none⟩ = some (.int .i64 x.soa.key.c) ∧ w'.cell? ⟨yb, 7, none⟩ = some (.slice ya yn yc) ∧ w'.cell? ⟨yb, 8, none⟩ = some (.int .i64 x.soa.ttl) ∧ w'.cell? ⟨yb, 9, none⟩ = some (.int .i64 x.u))) (exact T) ((first | (go_at_call 19; refine (told15_any _ _ _ _ _ _ _ _ _ _ _ _ _).mono ?_; rintro e w11 ⟨rfl, k5⟩; replace KK := Keeps.trans KK k5; replace T := HT.out _ KK; clear k5) | (go_at_call 18; refine (HON.out _ KK).mono ?_; rintro e w11 ⟨rfl, k5⟩; replace KK := Keeps.trans KK k5; replace T := HT.out _ KK; clear k5) | (go_at_call 9; refine (HL.out _).mono ?_; rintro e w11 ⟨rfl, k5⟩; replace KK := Keeps.trans KK k5; replace T := HT.out _ KK; clear k5)))
        go_wp2
        go_ret
        exact ⟨rfl, K.out.trans KK⟩

set_option maxHeartbeats 8000000 in
set_option maxRecDepth 100000 in
theorem NegDrops_go (HLV : ∀ w, Calls Try.prog 9 #[] w fun e w' => e = .returned (.bool true) ∧ Keeps w w') (v : Value) (zs : List (Op15 × Value)) (name : ByteArray) (q : Qn) (w : World) (hv : Ops15At w v zs) (_ : name.size ≤ maxLen) (hq : QnFine q) :
    Calls Try.prog 7 #[v, .string name, .agg #[.string q.n, .int .i64 q.t, .int .i64 q.c]] w fun e w' => e = .returned (.bool true) ∧ Keeps w w' := by
  have HSM := hide (fun W (k : Keeps w W) => small15_any v zs 60 W ⟨hv.1.keeps k, fun z hz => ⟨(hv.2.1 z hz).1, (hv.2.1 z hz).2.keeps k⟩, hv.2.2⟩)
  have HL := hide HLV
  have B := hide (Blk.made w #[.string q.n, .int .i64 q.t, .int .i64 q.c] 32)
  have K := hide ((Keeps.refl w).alloc (.cells #[.string q.n, .int .i64 q.t, .int .i64 q.c] 32))
  obtain ⟨va, vc, hvd⟩ := hv.1.len
  rw [List.length_map] at hvd
  subst hvd
  cases hsm : small15 zs 60
  · rw [hsm] at HSM
    clear hv
    go_enter Try.func7, Try.ntmps7
    go_upto_region 1 with fail
    generalize w.alloc (.cells #[.string q.n, .int .i64 q.t, .int .i64 q.c] 32) = W at *
    generalize w.heap.size = F at *
    go_wp2_with fail
    refine (HSM.out _ K.out).mono ?_
    rintro e w1 ⟨rfl, k1⟩
    replace B := hide (B.out.keeps k1)
    replace K := hide (K.out.trans k1)
    clear k1
    obtain ⟨q0, q1, q2⟩ := B.out.three.1
    go_wp2_with fail
    refine (HL.out _).mono ?_
    rintro e wz ⟨rfl, kz⟩
    replace K := hide (K.out.trans kz)
    clear kz
    go_wp2
    go_ret
    exact ⟨rfl, K.out⟩
  obtain ⟨h60, hds⟩ := small15_len hsm
  by_cases x0 : (300 : Int) < (q.n.size : Int)
  · rw [hsm] at HSM
    clear hv hds h60
    go_enter Try.func7, Try.ntmps7
    go_upto_region 1 with fail
    generalize w.alloc (.cells #[.string q.n, .int .i64 q.t, .int .i64 q.c] 32) = W at *
    generalize w.heap.size = F at *
    go_wp2_with fail
    refine (HSM.out _ K.out).mono ?_
    rintro e w1 ⟨rfl, k1⟩
    replace B := hide (B.out.keeps k1)
    replace K := hide (K.out.trans k1)
    clear k1
    obtain ⟨q0, q1, q2⟩ := B.out.three.1
    go_wp2_with fail
    refine (HL.out _).mono ?_
    rintro e wz ⟨rfl, kz⟩
    replace K := hide (K.out.trans kz)
    clear kz
    go_wp2
    go_ret
    exact ⟨rfl, K.out⟩
  by_cases x1 : (300 : Int) < (name.size : Int)
  · rw [hsm] at HSM
    clear hv hds h60
    go_enter Try.func7, Try.ntmps7
    go_upto_region 1 with fail
    generalize w.alloc (.cells #[.string q.n, .int .i64 q.t, .int .i64 q.c] 32) = W at *
    generalize w.heap.size = F at *
    go_wp2_with fail
    refine (HSM.out _ K.out).mono ?_
    rintro e w1 ⟨rfl, k1⟩
    replace B := hide (B.out.keeps k1)
    replace K := hide (K.out.trans k1)
    clear k1
    obtain ⟨q0, q1, q2⟩ := B.out.three.1
    go_wp2_with fail
    refine (HL.out _).mono ?_
    rintro e wz ⟨rfl, kz⟩
    replace K := hide (K.out.trans kz)
    clear kz
    go_wp2
    go_ret
    exact ⟨rfl, K.out⟩
  exact NegDrops_yes HLV zs va vc name q w hv hq h60 hds x0 x1 hsm
end Go.Proofs.Ytedcjkfiljjpiaa
