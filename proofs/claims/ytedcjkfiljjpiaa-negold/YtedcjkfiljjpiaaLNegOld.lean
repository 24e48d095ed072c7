/- NegOld answers true, for every input: the walk. (Made by tools/gennegold.py.) -/
import Derived.Test.YtedcjkfiljjpiaaLNegA
import Derived.Test.YtedcjkfiljjpiaaLNegS
import Derived.Test.YtedcjkfiljjpiaaNgX
namespace Go.Proofs.Ytedcjkfiljjpiaa
open Go.RowKit

set_option maxHeartbeats 32000000 in
set_option maxRecDepth 100000 in
theorem NegOld_yes (HLV : ∀ w, Calls Try.prog 9 #[] w fun e w' => e = .returned (.bool true) ∧ Keeps w w') (zs : List (Op15 × Value)) (va : Option Addr) (vc : Nat) (q : Qn) (now : Int) (w : World) (hv : Ops15At w (.slice va zs.length vc) zs) (hqq : QnFine q) (h60 : (zs.length : Int) ≤ 60) (hds : ∀ z ∈ zs, z.1.soa.ds.length ≤ 1000000) (x0 : ¬ (300 : Int) < (q.n.size : Int)) (x1 : ¬ now < 0) (x3 : ¬ 549755813888 < now) (hsm : small15 zs 60 = true) :
    Calls Try.prog 6 #[.slice va zs.length vc, .agg #[.string q.n, .int .i64 q.t, .int .i64 q.c], .int .i64 now] w fun e w' => e = .returned (.bool true) ∧ Keeps w w' := by
  have HSM := hide (fun W (k : Keeps w W) => small15_any _ zs 60 W ⟨hv.1.keeps k, fun z hz => ⟨(hv.2.1 z hz).1, (hv.2.1 z hz).2.keeps k⟩, hv.2.2⟩)
  rw [hsm] at HSM
  obtain ⟨hrd, hall, hlen⟩ := hv
  have RD := hide hrd
  have HALL := hide hall
  have HDS := hide hds
  have hq := hide hqq
  have HL := hide HLV
  have HX := hide (fun s (hI : Ng.Inv s) => Ng.old_two hI q (now := now) (by omega) (by omega))
  have hw40 : IntKind.i64.wrap (now + 1) = now + 1 := by rw [IntKind.wrap_i64]; omega
  clear hrd hall hlen hds hsm hqq HLV
  have B := hide (Blk.made w #[.string q.n, .int .i64 q.t, .int .i64 q.c] 32)
  have K := hide ((Keeps.refl w).alloc (.cells #[.string q.n, .int .i64 q.t, .int .i64 q.c] 32))
  go_enter Try.func6, Try.ntmps6
  go_upto_region 1 with fail
  generalize w.alloc (.cells #[.string q.n, .int .i64 q.t, .int .i64 q.c] 32) = W at *
  generalize hF : w.heap.size = F at B ⊢
  replace hF := hide hF
  have hFW : Hid (F < W.heap.size) := B.out.lt
  go_wp2_with fail
  refine (HSM.out _ K.out).mono ?_
  rintro e w1 ⟨rfl, k1⟩
  replace B := hide (B.out.keeps k1)
  replace K := hide (K.out.trans k1)
  have hF1 : Hid (F < w1.heap.size) := B.out.lt
  clear k1 HSM hFW
  obtain ⟨q0, q1, q2⟩ := B.out.three.1
  go_wp2_with fail
  refine (NewN_yes 50 _ (by decide) (by decide)).mono ?_
  intro e w2 hE
  obtain ⟨p, m, rfl, hp, hm, hS, k2⟩ := hE
  have hpw : Hid (w.heap.size ≤ p ∧ w.heap.size ≤ m) := by have := K.out.size; rw [Hid]; omega
  have hFp : Hid (F ≠ p ∧ F ≠ m) := by have := hF1.out; rw [Hid]; omega
  have S := hide hS
  replace B := hide (B.out.keeps k2)
  replace K := hide (K.out.trans k2)
  clear hS k2 hp hm q0 q1 q2 hF1
  go_wp2_with fail
  go_loopw [8] (fun i wr => ∃ (j : Nat) (s : Ngs), j ≤ zs.length ∧ i = .int .i64 j ∧ Hid (NAt wr p m s) ∧ Hid (s.changes ≤ j) ∧ Hid (Ng.Inv s) ∧ Hid (Blk wr F #[.string q.n, .int .i64 q.t, .int .i64 q.c] 32) ∧ Hid (Keeps w wr)) (fun i _ => zs.length - (intOf i).toNat)
  case atStart => exact ⟨0, _, by omega, rfl, S, by simp [Hid], Ng.inv_nil _, B, K⟩
  case round =>
    clear S K B
    obtain ⟨j, s, hj, rfl, S, HC, HI, B, K⟩ := hrel
    by_cases hlt : j < zs.length
    · have i2 : (j : Int) < (zs.length : Int) := by omega
      have i0 : (0 : Int) ≤ (j : Int) := by omega
      have hv2 := RD.out.keeps K.out
      obtain ⟨b, off, rfl, hbl, _⟩ := RD.out.parts (by rw [List.length_map]; omega)
      obtain ⟨c0, c1, c2, c3, c4, c5, c6, c7, c8, c9, c10⟩ := row11 hv2 hlt
      obtain ⟨⟨hf0, hf1, hf2, _, hf4⟩, hdr⟩ := HALL.out _ (List.getElem_mem hlt)
      have hd6 := HDS.out _ (List.getElem_mem hlt)
      generalize hoo : off + j * 11 = o at *
      generalize zs[j] = z at *
      obtain ⟨z, zd⟩ := z
      obtain ⟨da, dc, hzd⟩ := hdr.len
      simp only at hzd hd6 hf4
      subst hzd
      simp only at c0 c1 c2 c3 c4 c5 c6 c7 c8 c9 c10
      have HPUT := hide (fun W (kk : Keeps wr.drew W) => PutN_some p m s z.now z.key z.nx (.agg #[.string z.soa.key.n, .int .i64 z.soa.key.t, .int .i64 z.soa.key.c, .slice da z.soa.ds.length dc, .int .i64 z.soa.ttl]) z.soa W ⟨_, rfl, hdr.keeps ((K.out.drew).trans kk)⟩ hf1 hf0 (S.out.keeps ((Keeps.refl wr).drew.trans kk)) hf2 hd6 (by have := HC.out; omega))
      have HT := hide (fun w' (kk : KB p m wr.drew w') => (⟨(kk.cell (x := ⟨b, o + 1, none⟩) (by have := K.out.size; show b < wr.heap.size; omega) (by have := hpw.out; show b ≠ p; omega) (by have := hpw.out; show b ≠ m; omega)).trans c1, (kk.cell (x := ⟨b, o + 2, none⟩) (by have := K.out.size; show b < wr.heap.size; omega) (by have := hpw.out; show b ≠ p; omega) (by have := hpw.out; show b ≠ m; omega)).trans c2, (kk.cell (x := ⟨b, o + 3, none⟩) (by have := K.out.size; show b < wr.heap.size; omega) (by have := hpw.out; show b ≠ p; omega) (by have := hpw.out; show b ≠ m; omega)).trans c3, (kk.cell (x := ⟨b, o + 4, none⟩) (by have := K.out.size; show b < wr.heap.size; omega) (by have := hpw.out; show b ≠ p; omega) (by have := hpw.out; show b ≠ m; omega)).trans c4, (kk.cell (x := ⟨b, o + 5, none⟩) (by have := K.out.size; show b < wr.heap.size; omega) (by have := hpw.out; show b ≠ p; omega) (by have := hpw.out; show b ≠ m; omega)).trans c5, (kk.cell (x := ⟨b, o + 6, none⟩) (by have := K.out.size; show b < wr.heap.size; omega) (by have := hpw.out; show b ≠ p; omega) (by have := hpw.out; show b ≠ m; omega)).trans c6, (kk.cell (x := ⟨b, o + 7, none⟩) (by have := K.out.size; show b < wr.heap.size; omega) (by have := hpw.out; show b ≠ p; omega) (by have := hpw.out; show b ≠ m; omega)).trans c7, (kk.cell (x := ⟨b, o + 8, none⟩) (by have := K.out.size; show b < wr.heap.size; omega) (by have := hpw.out; show b ≠ p; omega) (by have := hpw.out; show b ≠ m; omega)).trans c8, (kk.cell (x := ⟨b, o + 9, none⟩) (by have := K.out.size; show b < wr.heap.size; omega) (by have := hpw.out; show b ≠ p; omega) (by have := hpw.out; show b ≠ m; omega)).trans c9, (kk.cell (x := ⟨b, o + 10, none⟩) (by have := K.out.size; show b < wr.heap.size; omega) (by have := hpw.out; show b ≠ p; omega) (by have := hpw.out; show b ≠ m; omega)).trans c10⟩ : w'.cell? ⟨b, o + 1, none⟩ = some (.int .i64 z.now) ∧ w'.cell? ⟨b, o + 2, none⟩ = some (.string z.key.n) ∧ w'.cell? ⟨b, o + 3, none⟩ = some (.int .i64 z.key.t) ∧ w'.cell? ⟨b, o + 4, none⟩ = some (.int .i64 z.key.c) ∧ w'.cell? ⟨b, o + 5, none⟩ = some (.bool z.nx) ∧ w'.cell? ⟨b, o + 6, none⟩ = some (.string z.soa.key.n) ∧ w'.cell? ⟨b, o + 7, none⟩ = some (.int .i64 z.soa.key.t) ∧ w'.cell? ⟨b, o + 8, none⟩ = some (.int .i64 z.soa.key.c) ∧ w'.cell? ⟨b, o + 9, none⟩ = some (.slice da z.soa.ds.length dc) ∧ w'.cell? ⟨b, o + 10, none⟩ = some (.int .i64 z.soa.ttl)))
      have T := HT.out _ (KB.refl _ _ _)
      have KK : Keeps wr.drew wr.drew := Keeps.refl _
      have hf4h := hide hf4
      clear c0 c1 c2 c3 c4 c5 c6 c7 c8 c9 c10 hv2 hdr hf0 hf1 hf2 hf4 HX
      go_wp2_with fail
      go_region_held3 (fun w' => w'.cell? ⟨b, o + 1, none⟩ = some (.int .i64 z.now) ∧ w'.cell? ⟨b, o + 2, none⟩ = some (.string z.key.n) ∧ w'.cell? ⟨b, o + 3, none⟩ = some (.int .i64 z.key.t) ∧ w'.cell? ⟨b, o + 4, none⟩ = some (.int .i64 z.key.c) ∧ w'.cell? ⟨b, o + 5, none⟩ = some (.bool z.nx) ∧ w'.cell? ⟨b, o + 6, none⟩ = some (.string z.soa.key.n) ∧ w'.cell? ⟨b, o + 7, none⟩ = some (.int .i64 z.soa.key.t) ∧ w'.cell? ⟨b, o + 8, none⟩ = some (.int .i64 z.soa.key.c) ∧ w'.cell? ⟨b, o + 9, none⟩ = some (.slice da z.soa.ds.length dc) ∧ w'.cell? ⟨b, o + 10, none⟩ = some (.int .i64 z.soa.ttl)) (exact T) ((go_at_call 15; refine (HPUT.out _ KK).mono ?_; intro e w5 hE; obtain ⟨cc, s5, rfl, S5, E5, kb5⟩ := hE; replace T := HT.out _ ((KB.of KK).trans kb5)))
      have S6 := hide S5
      have C6 : Hid (s5.changes ≤ ((j + 1 : Nat) : Int)) := by have h1 := HC.out; have h2 := (Ng.changes_put s z.now z.key z.nx z.soa).1; rw [← E5] at h2; rw [Hid]; omega
      have I6 : Hid (Ng.Inv s5) := by rw [Hid, E5]; exact Ng.inv_put HI.out _ _ _ _
      have K6 := hide (show Keeps w w5 from Below.trans (K.out.drew.trans KK) (kb5.below hpw.out.1 hpw.out.2 (K.out.drew.trans KK).size))
      have B6 := hide (((B.out.drew.keeps KK)).kb hFp.out.1 hFp.out.2 kb5)
      clear T
      clear HT HPUT S5 E5 kb5 KK
      go_wp2_with fail
      go_roundw
      case rel => exact ⟨j + 1, s5, by omega, by go_num, S6, C6, I6, B6, K6⟩
      case measure => simp [intOf]; omega
    · have i2 : ¬ (j : Int) < (zs.length : Int) := by omega
      have HTW := HX.out s HI.out
      clear HALL HDS RD hlt HC HI HX
      obtain ⟨q0, q1, q2⟩ := B.out.three.1
      go_wp2_with fail
      refine (Find_any p m _ now q _ S.out hq.out).mono ?_
      intro e w6 hE
      obtain ⟨vi, rfl, ht, k1⟩ := hE
      obtain ⟨x, xa, xn, xc, rfl, hx, hr⟩ := ht.form
      replace hx := hide hx
      have k2 := (Keeps.refl w6).alloc (.cells #[.string x.key.n, .int .i64 x.key.t, .int .i64 x.key.c, .bool x.nx, .string x.soa.key.n, .int .i64 x.soa.key.t, .int .i64 x.soa.key.c, .slice xa xn xc, .int .i64 x.soa.ttl, .int .i64 x.u] 48)
      have X := hide (Blk.made w6 #[.string x.key.n, .int .i64 x.key.t, .int .i64 x.key.c, .bool x.nx, .string x.soa.key.n, .int .i64 x.soa.key.t, .int .i64 x.soa.key.c, .slice xa xn xc, .int .i64 x.soa.ttl, .int .i64 x.u] 48)
      have XR := hide (hr.keeps k2)
      have hXp : Hid (w6.heap.size ≠ p ∧ w6.heap.size ≠ m) := by have h1 := (S.out.keeps k1).lt; rw [Hid]; omega
      replace B := hide (B.out.keeps (k1.trans k2))
      replace S := hide (S.out.keeps (k1.trans k2))
      replace K := hide (K.out.trans (k1.trans k2))
      clear k1 k2 hr ht q0 q1 q2
      unfold niV
      go_upto_region 11 with fail
      generalize w6.alloc (.cells #[.string x.key.n, .int .i64 x.key.t, .int .i64 x.key.c, .bool x.nx, .string x.soa.key.n, .int .i64 x.soa.key.t, .int .i64 x.soa.key.c, .slice xa xn xc, .int .i64 x.soa.ttl, .int .i64 x.u] 48) = W6 at *
      generalize w6.heap.size = xb at *
      generalize hL1 : (Ng.findN s now q).isSome = L1 at *
      replace hL1 := hide hL1
      obtain ⟨q0, q1, q2⟩ := B.out.three.1
      go_wp2_with fail
      refine (Find_any p m _ (now + 1) q _ S.out hq.out).mono ?_
      intro e w8 hE
      obtain ⟨vi, rfl, ht, k1⟩ := hE
      obtain ⟨y, ya, yn, yc, rfl, hy, hr⟩ := ht.form
      replace hy := hide hy
      have k2 := (Keeps.refl w8).alloc (.cells #[.string y.key.n, .int .i64 y.key.t, .int .i64 y.key.c, .bool y.nx, .string y.soa.key.n, .int .i64 y.soa.key.t, .int .i64 y.soa.key.c, .slice ya yn yc, .int .i64 y.soa.ttl, .int .i64 y.u] 48)
      have Y := hide (Blk.made w8 #[.string y.key.n, .int .i64 y.key.t, .int .i64 y.key.c, .bool y.nx, .string y.soa.key.n, .int .i64 y.soa.key.t, .int .i64 y.soa.key.c, .slice ya yn yc, .int .i64 y.soa.ttl, .int .i64 y.u] 48)
      have YR := hide (hr.keeps k2)
      have hYp : Hid (w8.heap.size ≠ p ∧ w8.heap.size ≠ m) := by have h1 := (S.out.keeps k1).lt; rw [Hid]; omega
      replace X := hide (X.out.keeps (k1.trans k2))
      replace XR := hide (XR.out.keeps (k1.trans k2))
      replace B := hide (B.out.keeps (k1.trans k2))
      replace S := hide (S.out.keeps (k1.trans k2))
      replace K := hide (K.out.trans (k1.trans k2))
      clear k1 k2 hr ht q0 q1 q2
      unfold niV
      go_upto_region 12 with fail
      generalize w8.alloc (.cells #[.string y.key.n, .int .i64 y.key.t, .int .i64 y.key.c, .bool y.nx, .string y.soa.key.n, .int .i64 y.soa.key.t, .int .i64 y.soa.key.c, .slice ya yn yc, .int .i64 y.soa.ttl, .int .i64 y.u] 48) = W8 at *
      generalize w8.heap.size = yb at *
      generalize hL2 : (Ng.findN s (now + 1) q).isSome = L2 at *
      replace hL2 := hide hL2
      obtain ⟨x0, x1, x2, x3, x4, x5, x6, x7, x8, x9⟩ := X.out.ten.1
      obtain ⟨y0, y1, y2, y3, y4, y5, y6, y7, y8, y9⟩ := Y.out.ten.1
      rcases HTW with ⟨e1, e2 | ⟨a, e2, e3⟩⟩ | ⟨a, b, e1, e2, e3, e4, e5⟩
      · have h1 : L1 = false := by rw [← hL1.out, e2]; rfl
        have h2 : L2 = false := by rw [← hL2.out, e1]; rfl
        subst h1 h2
        clear e1 e2 hx hy hL1 hL2
        go_wp2_with fail
        refine (HL.out _).mono ?_
        rintro e wz ⟨rfl, kz⟩
        replace K := hide (K.out.trans kz)
        clear kz
        go_wp2
        go_ret
        exact ⟨rfl, K.out⟩
      · have h1 : L1 = true := by rw [← hL1.out, e2]; rfl
        have h2 : L2 = false := by rw [← hL2.out, e1]; rfl
        have hxa : x = a := by rw [hx.out, e2]; rfl
        have hle : decide (x.u ≤ now) = false := decide_eq_false (by rw [hxa]; omega)
        subst h1 h2
        clear e1 e2 e3 hx hy hL1 hL2 hxa
        go_wp2_with fail
        refine (HL.out _).mono ?_
        rintro e wz ⟨rfl, kz⟩
        replace K := hide (K.out.trans kz)
        clear kz
        go_wp2
        go_ret
        exact ⟨rfl, K.out⟩
      · have h1 : L1 = true := by rw [← hL1.out, e1]; rfl
        have h2 : L2 = true := by rw [← hL2.out, e2]; rfl
        have hxa : x = a := by rw [hx.out, e1]; rfl
        have hyb : y = b := by rw [hy.out, e2]; rfl
        rw [← hxa, ← hyb] at e5
        rw [← hxa] at e3
        rw [← hyb] at e4
        have hle : decide (x.u ≤ now) = false := decide_eq_false (by omega)
        have hle2 : decide (y.u ≤ now + 1) = false := decide_eq_false (by omega)
        subst h1 h2
        have rn := eql_qn x.key y.key
        by_cases hk : x.key = y.key
        · rw [decide_eq_true hk] at rn
          clear e1 e2 e3 e4 e5 hx hy hL1 hL2 hxa hyb hk
          go_wp2_with fail
          refine (HL.out _).mono ?_
          rintro e wz ⟨rfl, kz⟩
          replace K := hide (K.out.trans kz)
          clear kz
          go_wp2
          go_ret
          exact ⟨rfl, K.out⟩
        · rw [decide_eq_false hk] at rn
          obtain ⟨f1, f2, f3⟩ : x.nx = true ∧ y.nx = false ∧ x.u = now + 1 := by
            rcases e5 with h | h
            · exact absurd h hk
            · exact h
          have hbe : (x.u == now + 1) = true := by rw [f3]; simp
          rw [f1] at x3
          rw [f2] at y3
          clear e1 e2 e3 e4 e5 hx hy hL1 hL2 hxa hyb hk f1 f2 f3
          go_wp2_with fail
          refine (HL.out _).mono ?_
          rintro e wz ⟨rfl, kz⟩
          replace K := hide (K.out.trans kz)
          clear kz
          go_wp2
          go_ret
          exact ⟨rfl, K.out⟩

set_option maxHeartbeats 8000000 in
set_option maxRecDepth 100000 in
theorem NegOld_go (HLV : ∀ w, Calls Try.prog 9 #[] w fun e w' => e = .returned (.bool true) ∧ Keeps w w') (v : Value) (zs : List (Op15 × Value)) (q : Qn) (now : Int) (w : World) (hv : Ops15At w v zs) (hq : QnFine q) (_ : -9223372036854775808 ≤ now ∧ now ≤ 9223372036854775807) :
    Calls Try.prog 6 #[v, .agg #[.string q.n, .int .i64 q.t, .int .i64 q.c], .int .i64 now] w fun e w' => e = .returned (.bool true) ∧ Keeps w w' := by
  have HSM := hide (fun W (k : Keeps w W) => small15_any v zs 60 W ⟨hv.1.keeps k, fun z hz => ⟨(hv.2.1 z hz).1, (hv.2.1 z hz).2.keeps k⟩, hv.2.2⟩)
  have HL := hide HLV
  have B := hide (Blk.made w #[.string q.n, .int .i64 q.t, .int .i64 q.c] 32)
  have K := hide ((Keeps.refl w).alloc (.cells #[.string q.n, .int .i64 q.t, .int .i64 q.c] 32))
  obtain ⟨va, vc, hvd⟩ := hv.1.len
  rw [List.length_map] at hvd
  subst hvd
  cases hsm : small15 zs 60
  · rw [hsm] at HSM
    clear hv
    go_enter Try.func6, Try.ntmps6
    go_upto_region 1 with fail
    generalize w.alloc (.cells #[.string q.n, .int .i64 q.t, .int .i64 q.c] 32) = W at *
    generalize w.heap.size = F at *
    go_wp2_with fail
    refine (HSM.out _ K.out).mono ?_
    rintro e w1 ⟨rfl, k1⟩
    replace B := hide (B.out.keeps k1)
    replace K := hide (K.out.trans k1)
    clear k1
    obtain ⟨q0, q1, q2⟩ := B.out.three.1
    go_wp2_with fail
    refine (HL.out _).mono ?_
    rintro e wz ⟨rfl, kz⟩
    replace K := hide (K.out.trans kz)
    clear kz
    go_wp2
    go_ret
    exact ⟨rfl, K.out⟩
  obtain ⟨h60, hds⟩ := small15_len hsm
  by_cases x0 : (300 : Int) < (q.n.size : Int)
  · rw [hsm] at HSM
    clear hv hds h60
    go_enter Try.func6, Try.ntmps6
    go_upto_region 1 with fail
    generalize w.alloc (.cells #[.string q.n, .int .i64 q.t, .int .i64 q.c] 32) = W at *
    generalize w.heap.size = F at *
    go_wp2_with fail
    refine (HSM.out _ K.out).mono ?_
    rintro e w1 ⟨rfl, k1⟩
    replace B := hide (B.out.keeps k1)
    replace K := hide (K.out.trans k1)
    clear k1
    obtain ⟨q0, q1, q2⟩ := B.out.three.1
    go_wp2_with fail
    refine (HL.out _).mono ?_
    rintro e wz ⟨rfl, kz⟩
    replace K := hide (K.out.trans kz)
    clear kz
    go_wp2
    go_ret
    exact ⟨rfl, K.out⟩
  by_cases x1 : now < 0
  · rw [hsm] at HSM
    clear hv hds h60
    go_enter Try.func6, Try.ntmps6
    go_upto_region 1 with fail
    generalize w.alloc (.cells #[.string q.n, .int .i64 q.t, .int .i64 q.c] 32) = W at *
    generalize w.heap.size = F at *
    go_wp2_with fail
    refine (HSM.out _ K.out).mono ?_
    rintro e w1 ⟨rfl, k1⟩
    replace B := hide (B.out.keeps k1)
    replace K := hide (K.out.trans k1)
    clear k1
    obtain ⟨q0, q1, q2⟩ := B.out.three.1
    go_wp2_with fail
    refine (HL.out _).mono ?_
    rintro e wz ⟨rfl, kz⟩
    replace K := hide (K.out.trans kz)
    clear kz
    go_wp2
    go_ret
    exact ⟨rfl, K.out⟩
  by_cases x3 : 549755813888 < now
  · rw [hsm] at HSM
    clear hv hds h60
    go_enter Try.func6, Try.ntmps6
    go_upto_region 1 with fail
    generalize w.alloc (.cells #[.string q.n, .int .i64 q.t, .int .i64 q.c] 32) = W at *
    generalize w.heap.size = F at *
    go_wp2_with fail
    refine (HSM.out _ K.out).mono ?_
    rintro e w1 ⟨rfl, k1⟩
    replace B := hide (B.out.keeps k1)
    replace K := hide (K.out.trans k1)
    clear k1
    obtain ⟨q0, q1, q2⟩ := B.out.three.1
    go_wp2_with fail
    refine (HL.out _).mono ?_
    rintro e wz ⟨rfl, kz⟩
    replace K := hide (K.out.trans kz)
    clear kz
    go_wp2
    go_ret
    exact ⟨rfl, K.out⟩
  exact NegOld_yes HLV zs va vc q now w hv hq h60 hds x0 x1 x3 hsm
end Go.Proofs.Ytedcjkfiljjpiaa
