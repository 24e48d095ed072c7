/- StoreOld answers true, for every input: the walk. -/
import Derived.Test.YtdjhmfomiggikaaStoY
import Derived.Test.YtdjhmfomiggikaaStoL
namespace Go.Proofs.Ytdjhmfomiggikaa
open Go.RowKit

/-- What Put comes to, without its words. -/
def PutSome (w : World) (p m : Nat) (s : Sto) (e : Ending) (w' : World) : Prop := ∃ c s', e = .returned (.int .i64 c) ∧ SAt w' p m s' ∧ s'.changes ≤ s.changes + 1 ∧ KB p m w w'
theorem Put_some (p m : Nat) (s : Sto) (now : Int) (v : Value) (x : St) (rank : Int) (w : World) (hx : StAt w v x) (hf : StFine x) (hin : StIn x) (h : SAt w p m s) (hd6 : x.ds.length ≤ 1000000) (hch : s.changes ≤ 1099511627776) :
    Calls Try.prog 11 #[.pointer (some ⟨p, 0, none⟩), .int .i64 now, v, .int .i64 rank] w fun e w' => PutSome w p m s e w' := by
  refine (Put_any p m s now v x rank w hx hf hin h hd6 hch).mono ?_
  rintro e w' ⟨rfl, h1, h2⟩
  exact ⟨_, _, rfl, h1, (Bo.changes_put _ _ _ _).1, h2⟩
/-- Peeked at two times. -/
theorem old_two (s : Sto) (q : Qn) {now more : Int} (h0 : 0 ≤ now) (h1 : now ≤ 549755813888) (h2 : 0 ≤ more) :
    Sto.peek s (now + more) q = none ∨ ∃ i, Sto.peek s (now + more) q = some i ∧ Sto.peek s now q = some i ∧ now + more < i.u := by
  cases h : Sto.peek s (now + more) q with
  | none => exact .inl rfl
  | some i =>
    obtain ⟨h3, h4⟩ := Bo.peek_old h0 h1 h2 h
    exact .inr ⟨i, rfl, h3, h4⟩

set_option maxHeartbeats 32000000 in
set_option maxRecDepth 100000 in
theorem StoreOld_yes (zs : List (Op14 × Value)) (va : Option Addr) (vc : Nat) (now more : Int) (w : World) (hv : Ops14At w (.slice va zs.length vc) zs) (h60 : (zs.length : Int) ≤ 60) (hds : ∀ z ∈ zs, z.1.set.ds.length ≤ 1000000) (x1 : ¬ now < 0) (x2 : ¬ more < 0) (x3 : ¬ 549755813888 < now) (x4 : ¬ 549755813888 < more)
    (hsm : small14 zs 60 = true) :
    Calls Try.prog 5 #[.slice va zs.length vc, .int .i64 now, .int .i64 more] w fun e w' => e = .returned (.bool true) ∧ Keeps w w' := by
  have HSM := hide (small14_any _ zs 60 w hv)
  rw [hsm] at HSM
  obtain ⟨hrd, hall, hlen⟩ := hv
  have RD := hide hrd
  have HALL := hide hall
  have HDS := hide hds
  have HTWO := hide (fun s q => old_two s q (now := now) (more := more) (by omega) (by omega) (by omega))
  have hw40 : IntKind.i64.wrap (now + more) = now + more := by rw [IntKind.wrap_i64]; omega
  clear hrd hall hlen hds hsm
  go_enter Try.func5, Try.ntmps5
  go_wp2_with fail
  refine (HSM.out).mono ?_
  rintro e w1 ⟨rfl, k1⟩
  have K := hide k1
  clear k1 HSM
  go_wp2_with fail
  refine (New_yes 50 _ (by decide) (by decide)).mono ?_
  intro e w2 hE
  obtain ⟨p, m, rfl, hp, hm, hS, k2⟩ := hE
  have hpw : Hid (w.heap.size ≤ p ∧ w.heap.size ≤ m) := by have := K.out.size; rw [Hid]; omega
  have S := hide hS
  replace K := hide (K.out.trans k2)
  clear hS k2 hp hm
  go_wp2_with fail
  go_loopw [8] (fun i wr => ∃ (j : Nat) (s : Sto), j ≤ zs.length ∧ i = .int .i64 j ∧ Hid (SAt wr p m s) ∧ Hid (s.changes ≤ j) ∧ Hid (Keeps w wr)) (fun i _ => zs.length - (intOf i).toNat)
  case atStart => exact ⟨0, _, by omega, rfl, S, by simp [Hid], K⟩
  case round =>
    clear S K
    obtain ⟨j, s, hj, rfl, S, HC, K⟩ := hrel
    by_cases hlt : j < zs.length
    · have i2 : (j : Int) < (zs.length : Int) := by omega
      have i0 : (0 : Int) ≤ (j : Int) := by omega
      have hv2 := RD.out.keeps K.out
      obtain ⟨b, off, rfl, hbl, _⟩ := RD.out.parts (by rw [List.length_map]; omega)
      obtain ⟨c0, c1, c2, c3, c4, c5, c6, c7⟩ := row8o hv2 hlt
      obtain ⟨⟨hf1, hf2, _⟩, hdr⟩ := HALL.out _ (List.getElem_mem hlt)
      have hd6 := HDS.out _ (List.getElem_mem hlt)
      generalize hoo : off + j * 8 = o at *
      generalize zs[j] = z at *
      obtain ⟨z, zd⟩ := z
      obtain ⟨da, dc, hzd⟩ := hdr.len
      simp only at hzd hd6
      subst hzd
      simp only at c0 c1 c2 c3 c4 c5 c6 c7
      have HPUT := hide (fun W (kk : Keeps wr.drew W) => Put_some p m s z.now (.agg #[.string z.set.key.n, .int .i64 z.set.key.t, .int .i64 z.set.key.c, .slice da z.set.ds.length dc, .int .i64 z.set.ttl]) z.set z.rank W ⟨_, rfl, hdr.keeps ((K.out.drew).trans kk)⟩ hf1 hf2 (S.out.keeps ((Keeps.refl wr).drew.trans kk)) hd6 (by have := HC.out; omega))
      have HT := hide (fun w' (kk : KB p m wr.drew w') => (⟨(kk.cell (x := ⟨b, o + 1, none⟩) (by have := K.out.size; show b < wr.heap.size; omega) (by have := hpw.out; show b ≠ p; omega) (by have := hpw.out; show b ≠ m; omega)).trans c1, (kk.cell (x := ⟨b, o + 2, none⟩) (by have := K.out.size; show b < wr.heap.size; omega) (by have := hpw.out; show b ≠ p; omega) (by have := hpw.out; show b ≠ m; omega)).trans c2, (kk.cell (x := ⟨b, o + 3, none⟩) (by have := K.out.size; show b < wr.heap.size; omega) (by have := hpw.out; show b ≠ p; omega) (by have := hpw.out; show b ≠ m; omega)).trans c3, (kk.cell (x := ⟨b, o + 4, none⟩) (by have := K.out.size; show b < wr.heap.size; omega) (by have := hpw.out; show b ≠ p; omega) (by have := hpw.out; show b ≠ m; omega)).trans c4, (kk.cell (x := ⟨b, o + 5, none⟩) (by have := K.out.size; show b < wr.heap.size; omega) (by have := hpw.out; show b ≠ p; omega) (by have := hpw.out; show b ≠ m; omega)).trans c5, (kk.cell (x := ⟨b, o + 6, none⟩) (by have := K.out.size; show b < wr.heap.size; omega) (by have := hpw.out; show b ≠ p; omega) (by have := hpw.out; show b ≠ m; omega)).trans c6, (kk.cell (x := ⟨b, o + 7, none⟩) (by have := K.out.size; show b < wr.heap.size; omega) (by have := hpw.out; show b ≠ p; omega) (by have := hpw.out; show b ≠ m; omega)).trans c7⟩ : w'.cell? ⟨b, o + 1, none⟩ = some (.int .i64 z.now) ∧ w'.cell? ⟨b, o + 2, none⟩ = some (.string z.set.key.n) ∧ w'.cell? ⟨b, o + 3, none⟩ = some (.int .i64 z.set.key.t) ∧ w'.cell? ⟨b, o + 4, none⟩ = some (.int .i64 z.set.key.c) ∧ w'.cell? ⟨b, o + 5, none⟩ = some (.slice da z.set.ds.length dc) ∧ w'.cell? ⟨b, o + 6, none⟩ = some (.int .i64 z.set.ttl) ∧ w'.cell? ⟨b, o + 7, none⟩ = some (.int .i64 z.rank)))
      have T := HT.out _ (KB.refl _ _ _)
      have KK : Keeps wr.drew wr.drew := Keeps.refl _
      clear c0 c1 c2 c3 c4 c5 c6 c7 hv2 hdr hf1 hf2 HTWO
      go_wp2_with fail
      go_region_held3 (fun w' => w'.cell? ⟨b, o + 1, none⟩ = some (.int .i64 z.now) ∧ w'.cell? ⟨b, o + 2, none⟩ = some (.string z.set.key.n) ∧ w'.cell? ⟨b, o + 3, none⟩ = some (.int .i64 z.set.key.t) ∧ w'.cell? ⟨b, o + 4, none⟩ = some (.int .i64 z.set.key.c) ∧ w'.cell? ⟨b, o + 5, none⟩ = some (.slice da z.set.ds.length dc) ∧ w'.cell? ⟨b, o + 6, none⟩ = some (.int .i64 z.set.ttl) ∧ w'.cell? ⟨b, o + 7, none⟩ = some (.int .i64 z.rank)) (exact T) ((go_at_call 11; refine (HPUT.out _ KK).mono ?_; intro e w5 hE; obtain ⟨cc, s5, rfl, S5, C5, kb5⟩ := hE; replace T := HT.out _ ((KB.of KK).trans kb5)))
      have S6 := hide S5
      have C6 : Hid (s5.changes ≤ ((j + 1 : Nat) : Int)) := by have := HC.out; rw [Hid]; omega
      have K6 := hide (show Keeps w w5 from Below.trans (K.out.drew.trans KK) (kb5.below hpw.out.1 hpw.out.2 (K.out.drew.trans KK).size))
      clear T HT HPUT S5 C5 kb5 KK
      go_wp2_with fail
      go_roundw
      case rel => exact ⟨j + 1, s5, by omega, by go_num, S6, C6, K6⟩
      case measure => simp [intOf]; omega
    · have i2 : ¬ (j : Int) < (zs.length : Int) := by omega
      clear HALL HDS RD hlt
      have hqf := hide (fun i hi => (S.out.ok.fine i hi).2.1.1)
      have hks := hide (keys_small S.out.ok)
      have hln := hide (fun n q => peek_len S.out n q)
      have hplt := hide S.out.lt
      go_wp2_with fail
      refine (Keys_any p m s _ S.out).mono ?_
      intro e w4 hE
      obtain ⟨vk, rfl, ok, k4⟩ := hE
      have RK := hide ok.read
      obtain ⟨ka, kc, rfl⟩ := ok.form
      rw [List.length_map] at RK ⊢
      replace S := hide (S.out.keeps k4)
      replace K := hide (K.out.trans k4)
      clear ok k4 HC
      generalize hkk : s.keys = ks at *
      replace hqf : Hid (∀ q ∈ ks, QnFine q) := fun q hq => by
        rw [← hkk] at hq
        obtain ⟨i, hi, rfl⟩ := List.mem_map.1 hq
        exact hqf.out i hi
      replace hkk := hide hkk
      go_wp2_with fail
      go_loopw [10] (fun i wr => ∃ j : Nat, j ≤ ks.length ∧ i = .int .i64 j ∧ Hid (Keeps w4 wr)) (fun i _ => ks.length - (intOf i).toNat)
      case atStart => exact ⟨0, by omega, rfl, hide (Keeps.refl _)⟩
      case round =>
        obtain ⟨j2, hj2, rfl, K2⟩ := hrel
        by_cases hlt2 : j2 < ks.length
        · have i3 : (j2 : Int) < (ks.length : Int) := by omega
          have i0 : (0 : Int) ≤ (j2 : Int) := by omega
          have hks' := hks.out
          have hv2 := RK.out.keeps K2.out
          obtain ⟨b, off, rfl, _, _⟩ := hv2.parts (by rw [List.length_map]; omega)
          obtain ⟨c0, c1, c2⟩ := row3 hv2 hlt2
          have hq := hqf.out _ (List.getElem_mem hlt2)
          have hTW := HTWO.out s ks[j2]
          have hl1 := hide (hln.out now ks[j2])
          have HPK := hide (fun W t (k : Keeps w4 W) => Peek_any p m s t ks[j2] W (S.out.keeps k) hq)
          have HCQ := hide (fun W (k : Keeps w4 W) => row3 (RK.out.keeps k) hlt2)
          generalize hoo : off + j2 * 3 = o at *
          generalize ks[j2] = q at *
          clear hv2 hqf hln hq
          go_wp2_with fail
          refine (HPK.out _ now K2.out).mono ?_
          intro e w6 hE
          obtain ⟨vi, rfl, ht, k6⟩ := hE
          obtain ⟨x, xa, xn, xc, rfl, hr, _, hxx⟩ := ht.see (Nat.lt_of_lt_of_le (S.out.lt.1) K2.out.size) (Nat.lt_of_lt_of_le (S.out.lt.2) K2.out.size)
          replace hxx := hide hxx
          have XR := hide (hr.keeps ((Keeps.refl w6).alloc (.cells #[.string x.set.key.n, .int .i64 x.set.key.t, .int .i64 x.set.key.c, .slice xa xn xc, .int .i64 x.set.ttl, .int .i64 x.u, .int .i64 x.rank] 46)))
          have X := hide (Blk.made w6 #[.string x.set.key.n, .int .i64 x.set.key.t, .int .i64 x.set.key.c, .slice xa xn xc, .int .i64 x.set.ttl, .int .i64 x.u, .int .i64 x.rank] 46)
          replace k6 := k6.alloc (.cells #[.string x.set.key.n, .int .i64 x.set.key.t, .int .i64 x.set.key.c, .slice xa xn xc, .int .i64 x.set.ttl, .int .i64 x.u, .int .i64 x.rank] 46)
          replace K2 := hide (K2.out.trans k6)
          clear k6 hr ht c0 c1 c2
          unfold itV
          generalize hL1 : (Sto.peek s now q).isSome = L1 at *
          replace hL1 := hide hL1
          go_upto_region 15 with fail
          generalize w6.alloc (.cells #[.string x.set.key.n, .int .i64 x.set.key.t, .int .i64 x.set.key.c, .slice xa xn xc, .int .i64 x.set.ttl, .int .i64 x.u, .int .i64 x.rank] 46) = W6 at *
          generalize w6.heap.size = XB at *
          obtain ⟨c0, c1, c2⟩ := HCQ.out _ K2.out
          go_wp2_with fail
          refine (HPK.out _ (now + more) K2.out).mono ?_
          intro e w8 hE
          obtain ⟨vi, rfl, ht, k8⟩ := hE
          obtain ⟨y, ya, yn, yc, rfl, hr, _, hyx⟩ := ht.see (Nat.lt_of_lt_of_le (S.out.lt.1) K2.out.size) (Nat.lt_of_lt_of_le (S.out.lt.2) K2.out.size)
          replace hyx := hide hyx
          have YR := hide (hr.keeps ((Keeps.refl w8).alloc (.cells #[.string y.set.key.n, .int .i64 y.set.key.t, .int .i64 y.set.key.c, .slice ya yn yc, .int .i64 y.set.ttl, .int .i64 y.u, .int .i64 y.rank] 46)))
          have Y := hide (Blk.made w8 #[.string y.set.key.n, .int .i64 y.set.key.t, .int .i64 y.set.key.c, .slice ya yn yc, .int .i64 y.set.ttl, .int .i64 y.u, .int .i64 y.rank] 46)
          replace k8 := k8.alloc (.cells #[.string y.set.key.n, .int .i64 y.set.key.t, .int .i64 y.set.key.c, .slice ya yn yc, .int .i64 y.set.ttl, .int .i64 y.u, .int .i64 y.rank] 46)
          replace K2 := hide (K2.out.trans k8)
          replace X := hide (X.out.keeps k8)
          replace XR := hide (XR.out.keeps k8)
          clear k8 hr ht c0 c1 c2 HPK HCQ
          unfold itV
          generalize hL2 : (Sto.peek s (now + more) q).isSome = L2 at *
          replace hL2 := hide hL2
          go_upto_region 16 with fail
          generalize w8.alloc (.cells #[.string y.set.key.n, .int .i64 y.set.key.t, .int .i64 y.set.key.c, .slice ya yn yc, .int .i64 y.set.ttl, .int .i64 y.u, .int .i64 y.rank] 46) = W8 at *
          generalize w8.heap.size = YB at *
          cases L2
          · clear hL1 hL2 hxx hyx X XR Y YR HTWO hTW hl1
            go_quiet (fail)
            go_wp2_with fail
            go_roundw
            case rel => exact ⟨j2 + 1, by omega, by go_num, hide (K2.out.drewN _)⟩
            case measure => simp [intOf]; omega
          · rcases hTW with h | ⟨i, h3, h4, h5⟩
            · have h' := hL2.out
              rw [h] at h'
              cases h'
            have hL1' : L1 = true := by have h' := hL1.out; rw [h4] at h'; exact h'.symm
            subst hL1'
            have hx : x = i := by have h' := hxx.out; rw [h4] at h'; exact h'
            have hy : y = i := by have h' := hyx.out; rw [h3] at h'; exact h'
            have hyx2 : y = x := hy.trans hx.symm
            rw [hyx2] at Y YR
            have hle : decide (x.u ≤ now + more) = false := decide_eq_false (by rw [hx]; omega)
            replace hl1 : x.set.ds.length ≤ 1099511627776 := by rw [hxx.out]; exact hl1.out
            replace hl1 := hide hl1
            clear h3 h4 h5 hx hy hyx2 hL1 hL2 hxx hyx HTWO
            have HT : Hid (∀ w', Keeps W8 w' → (w'.cell? ⟨XB, 0, none⟩ = some (.string x.set.key.n) ∧ w'.cell? ⟨XB, 1, none⟩ = some (.int .i64 x.set.key.t) ∧ w'.cell? ⟨XB, 2, none⟩ = some (.int .i64 x.set.key.c) ∧ w'.cell? ⟨XB, 3, none⟩ = some (.slice xa xn xc) ∧ w'.cell? ⟨XB, 4, none⟩ = some (.int .i64 x.set.ttl) ∧ w'.cell? ⟨XB, 5, none⟩ = some (.int .i64 x.u) ∧ w'.cell? ⟨XB, 6, none⟩ = some (.int .i64 x.rank)) ∧ (w'.cell? ⟨YB, 0, none⟩ = some (.string x.set.key.n) ∧ w'.cell? ⟨YB, 1, none⟩ = some (.int .i64 x.set.key.t) ∧ w'.cell? ⟨YB, 2, none⟩ = some (.int .i64 x.set.key.c) ∧ w'.cell? ⟨YB, 3, none⟩ = some (.slice ya yn yc) ∧ w'.cell? ⟨YB, 4, none⟩ = some (.int .i64 x.set.ttl) ∧ w'.cell? ⟨YB, 5, none⟩ = some (.int .i64 x.u) ∧ w'.cell? ⟨YB, 6, none⟩ = some (.int .i64 x.rank))) := fun w' k => ⟨(X.out.keeps k).seven.1, (Y.out.keeps k).seven.1⟩
            have HON := hide (fun W (k : Keeps W8 W) => One14_any (.slice xa xn xc) (.slice ya yn yc) x x W (XR.out.keeps k) (YR.out.keeps k) hl1.out)
            rw [decide_eq_true rfl] at HON
            unfold itV at HON
            clear X Y XR YR hl1
            have T := HT.out _ (Keeps.refl W8).drew
            have KK : Keeps W8 W8.drew := (Keeps.refl W8).drew
            go_region_held3 (fun w' => (w'.cell? ⟨XB, 0, none⟩ = some (.string x.set.key.n) ∧ w'.cell? ⟨XB, 1, none⟩ = some (.int .i64 x.set.key.t) ∧ w'.cell? ⟨XB, 2, none⟩ = some (.int .i64 x.set.key.c) ∧ w'.cell? ⟨XB, 3, none⟩ = some (.slice xa xn xc) ∧ w'.cell? ⟨XB, 4, none⟩ = some (.int .i64 x.set.ttl) ∧ w'.cell? ⟨XB, 5, none⟩ = some (.int .i64 x.u) ∧ w'.cell? ⟨XB, 6, none⟩ = some (.int .i64 x.rank)) ∧ (w'.cell? ⟨YB, 0, none⟩ = some (.string x.set.key.n) ∧ w'.cell? ⟨YB, 1, none⟩ = some (.int .i64 x.set.key.t) ∧ w'.cell? ⟨YB, 2, none⟩ = some (.int .i64 x.set.key.c) ∧ w'.cell? ⟨YB, 3, none⟩ = some (.slice ya yn yc) ∧ w'.cell? ⟨YB, 4, none⟩ = some (.int .i64 x.set.ttl) ∧ w'.cell? ⟨YB, 5, none⟩ = some (.int .i64 x.u) ∧ w'.cell? ⟨YB, 6, none⟩ = some (.int .i64 x.rank))) (exact T) ((first | (go_at_call 15; refine (told14_any _ _ _ _ _ _ _ _ _ _).mono ?_; rintro e w9 ⟨rfl, k5⟩; replace KK := Keeps.trans KK k5; replace T := HT.out _ KK; clear k5) | (go_at_call 14; refine (HON.out _ KK).mono ?_; rintro e w9 ⟨rfl, k5⟩; replace KK := Keeps.trans KK k5; replace T := HT.out _ KK; clear k5)))
            clear T HT HON
            go_wp2_with fail
            go_roundw
            case rel => exact ⟨j2 + 1, by omega, by go_num, hide (K2.out.trans KK)⟩
            case measure => simp [intOf]; omega
        · obtain rfl : j2 = ks.length := by omega
          have i3 : ¬ (ks.length : Int) < (ks.length : Int) := by omega
          clear HTWO hqf hln
          go_wp2_with fail
          refine (Keys_any p m s _ (S.out.keeps K2.out)).mono ?_
          intro e w6 hE
          obtain ⟨vk, rfl, ok, k6⟩ := hE
          rw [hkk.out] at ok
          replace K2 := hide (K2.out.trans k6)
          have hks' := hks.out
          go_wp2_with fail
          refine (refKeys13_any _ _ ks ks _ ok.read (RK.out.keeps K2.out) (by unfold maxLen; omega) (by unfold maxLen; omega)).mono ?_
          rintro e w7 ⟨rfl, k7⟩
          rw [decide_eq_true rfl]
          replace K := hide ((K.out.trans K2.out).trans k7)
          clear k6 k7 ok K2
          go_wp2_with fail
          refine (live14_any _).mono ?_
          rintro e wz ⟨rfl, kz⟩
          replace K := hide (K.out.trans kz)
          clear kz
          go_wp2
          go_ret
          exact ⟨rfl, K.out⟩

set_option maxHeartbeats 8000000 in
set_option maxRecDepth 100000 in
theorem StoreOld_walk (v : Value) (zs : List (Op14 × Value)) (now more : Int) (w : World) (hv : Ops14At w v zs) (_ : -9223372036854775808 ≤ now ∧ now ≤ 9223372036854775807) (_ : -9223372036854775808 ≤ more ∧ more ≤ 9223372036854775807) :
    Calls Try.prog 5 #[v, .int .i64 now, .int .i64 more] w fun e w' => e = .returned (.bool true) ∧ Keeps w w' := by
  have HSM := hide (small14_any v zs 60 w hv)
  obtain ⟨va, vc, hvd⟩ := hv.1.len
  rw [List.length_map] at hvd
  subst hvd
  cases hsm : small14 zs 60
  · rw [hsm] at HSM
    go_enter Try.func5, Try.ntmps5
    go_wp2_with fail
    refine (HSM.out).mono ?_
    rintro e w1 ⟨rfl, k1⟩
    go_wp2_with fail
    refine (live14_any _).mono ?_
    rintro e wz ⟨rfl, kz⟩
    go_wp2
    go_ret
    exact ⟨rfl, k1.trans kz⟩
  obtain ⟨h60, hds⟩ := small14_len hsm
  by_cases x1 : now < 0 ∨ more < 0 ∨ 549755813888 < now ∨ 549755813888 < more
  · rw [hsm] at HSM
    clear hv hds h60
    by_cases y1 : now < 0
    · clear x1
      go_enter Try.func5, Try.ntmps5
      go_wp2_with fail
      refine (HSM.out).mono ?_
      rintro e w1 ⟨rfl, k1⟩
      go_wp2_with fail
      refine (live14_any _).mono ?_
      rintro e wz ⟨rfl, kz⟩
      go_wp2
      go_ret
      exact ⟨rfl, k1.trans kz⟩
    by_cases y2 : more < 0
    · clear x1
      go_enter Try.func5, Try.ntmps5
      go_wp2_with fail
      refine (HSM.out).mono ?_
      rintro e w1 ⟨rfl, k1⟩
      go_wp2_with fail
      refine (live14_any _).mono ?_
      rintro e wz ⟨rfl, kz⟩
      go_wp2
      go_ret
      exact ⟨rfl, k1.trans kz⟩
    by_cases y3 : 549755813888 < now
    · clear x1
      go_enter Try.func5, Try.ntmps5
      go_wp2_with fail
      refine (HSM.out).mono ?_
      rintro e w1 ⟨rfl, k1⟩
      go_wp2_with fail
      refine (live14_any _).mono ?_
      rintro e wz ⟨rfl, kz⟩
      go_wp2
      go_ret
      exact ⟨rfl, k1.trans kz⟩
    have y4 : 549755813888 < more := by omega
    clear x1
    go_enter Try.func5, Try.ntmps5
    go_wp2_with fail
    refine (HSM.out).mono ?_
    rintro e w1 ⟨rfl, k1⟩
    go_wp2_with fail
    refine (live14_any _).mono ?_
    rintro e wz ⟨rfl, kz⟩
    go_wp2
    go_ret
    exact ⟨rfl, k1.trans kz⟩
  · exact StoreOld_yes zs va vc now more w hv h60 hds (by omega) (by omega) (by omega) (by omega) hsm
end Go.Proofs.Ytdjhmfomiggikaa
