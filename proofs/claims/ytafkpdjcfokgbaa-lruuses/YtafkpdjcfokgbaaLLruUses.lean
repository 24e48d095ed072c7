/- LruUses answers true, for every input: the walk. -/
import Derived.Test.YtafkpdjcfokgbaaLruLive
import Derived.Test.YtafkpdjcfokgbaaLruM
import Derived.Test.YtafkpdjcfokgbaaShapesI
namespace Go.Proofs.Ytafkpdjcfokgbaa
open Go.RowKit

/-- How far the touching has come. -/
def UsRel (w : World) (l : List Int) (v i : Value) (wr : World) : Prop := ∃ j : Nat, j ≤ l.length ∧ i = .int .i64 j ∧ ReadRow wr v 1 ((ordL l j).map iv) ∧ Keeps w wr
theorem UsRel.mk {w wr : World} {l : List Int} {v i : Value} (j : Nat) (h : j ≤ l.length) (hi : i = .int .i64 j) (r : ReadRow wr v 1 ((ordL l j).map iv)) (k : Keeps w wr) : UsRel w l v i wr := ⟨j, h, hi, r, k⟩
theorem when_low (l : List Int) (n : Int) : ∀ j, -2 < whenL l n j
  | 0 => by simp [whenL]
  | j + 1 => by
    unfold whenL
    have := when_low l n j
    split <;> omega

set_option maxHeartbeats 16000000 in
set_option maxRecDepth 100000 in
theorem LruUses_walk (v : Value) (l : List Int) (most : Int) (w : World) (hv : IsInts w v l) (hm : -9223372036854775808 ≤ most ∧ most ≤ 9223372036854775807) :
    Calls Try.prog 4 #[v, .int .i64 most] w fun e w' => e = .returned (.bool true) ∧ Keeps w w' := by
  obtain ⟨hv, hvi, _⟩ := hv
  obtain ⟨a, cap, h1⟩ := hv.len
  rw [List.length_map] at h1
  subst h1
  have RV := hide hv
  replace hvi := hide hvi
  have K := hide (Keeps.refl w)
  clear hv
  by_cases g1 : (200 : Int) < (l.length : Int)
  · go_enter Try.func4, Try.ntmps4
    go_wp2_with fail
    refine (live13_any _).mono ?_
    rintro e w1 ⟨rfl, k1⟩
    replace K := hide (K.out.trans k1)
    clear k1
    go_wp2
    go_ret
    exact ⟨rfl, K.out⟩
  have hl : l.length ≤ 200 := by omega
  go_enter Try.func4, Try.ntmps4
  go_wp2_with fail
  go_loopw [5, 6] (fun v i wr => UsRel w l v i wr) (fun _ i _ => l.length - (intOf i).toNat)
  case atStart => exact UsRel.mk 0 (by omega) rfl ReadRow.nil K.out
  case round =>
    obtain ⟨j, hj, rfl, RO, K⟩ := hrel
    replace RO := hide RO
    replace K := hide K
    have HOL := ord_len l j
    by_cases hlt : j < l.length
    · have i2 : (j : Int) < (l.length : Int) := by omega
      have i0 : (0 : Int) ≤ (j : Int) := by omega
      have hv2 := RV.out.keeps K.out
      obtain ⟨b, off, rfl, _, _⟩ := hv2.parts (by rw [List.length_map]; omega)
      have c0 := row1i hv2 hlt
      have HOS := hide (ord_step l j hlt)
      have HND := hide (ord_nodup l (j + 1) hlt)
      have HMEM := hide (ord_mem l (j + 1))
      obtain ⟨m, hmm, hml⟩ := touch_last (ordL l j) l[j]
      rw [← HOS.out] at hmm hml
      have HTL := ord_len l (j + 1)
      have HCELL := hide (fun W (kk : Keeps w W) => row1i (RV.out.keeps kk) hlt)
      have HTC := hide (fun W h => Touch_i u5 (ordL l j) l[j] W h (by omega))
      generalize hoo : off + j = o at *
      generalize l[j] = x at *
      clear hv2
      simp only [i1] at c0 HCELL HTC
      go_wp2_with fail
      refine (HTC.out _ RO.out).mono ?_
      intro e w1 hE
      obtain ⟨v', rfl, o1, k1⟩ := hE
      rw [← HOS.out] at o1
      have R1 := o1.read
      have K1 := hide (K.out.trans k1)
      obtain ⟨a1, cap1, h1⟩ := R1.len
      rw [List.length_map] at h1
      subst h1
      have HCK := hide (fun W (kk : Keeps w1 W) => Check_i _ (ordL l (j + 1)) W (R1.keeps kk) (by omega) (fun y hy => hvi.out y (HMEM.out y hy)))
      rw [decide_eq_true HND.out] at HCK
      obtain ⟨b1, o1', c1⟩ : ∃ b1 o1', a1 = some ⟨b1, o1', none⟩ ∧ w1.cell? ⟨b1, o1' + m, none⟩ = some (i1 x) := by
        obtain ⟨a2, cap2, e2, _, hp⟩ := R1
        obtain ⟨b1, o1', rfl, _, hc⟩ := hp (by rw [List.length_map]; omega)
        simp only [Value.slice.injEq] at e2
        refine ⟨b1, o1', e2.1, ?_⟩
        have := hc m (by rw [List.length_map]; omega) 0 (by decide)
        rw [Nat.mul_one, Nat.add_zero] at this
        have hx : (ordL l (j + 1))[m]'(by omega) = x := by
          rw [List.getElem?_eq_getElem (by omega), Option.some.injEq] at hml
          exact hml
        rw [this, List.getElem_map, hx]
        rfl
      obtain ⟨rfl, c1⟩ := c1
      have HR := hide R1
      have HLN := hide (ReadRow.len (HR.out))
      clear R1 o1 HMEM HND HOS hml HTC HLN
      generalize hn : (ordL l (j + 1)).length = n at *
      generalize hoo2 : o1' + m = o2 at *
      simp only [i1] at c1
      have HT : Hid (∀ w', Keeps w1 w' → w'.cell? ⟨b, o, none⟩ = some (.int .i64 x) ∧ w'.cell? ⟨b1, o2, none⟩ = some (.int .i64 x)) := fun w' k => ⟨HCELL.out _ (K1.out.trans k), (Below.cell k (World.block_lt_of_cell? w1 _ c1)).trans c1⟩
      have T := HT.out _ (Keeps.refl w1).drew
      have KK : Keeps w1 w1.drew := (Keeps.refl w1).drew
      have m0 : (0 : Int) ≤ (m : Int) := by omega
      have m1 : (n : Int) - 1 = (m : Int) := by omega
      have m4 : IntKind.i64.wrap (m : Int) = (m : Int) := by rw [IntKind.wrap_i64]; omega
      have m5 : IntKind.i64.wrap ((n : Int) - 1) = (m : Int) := by rw [m1]; exact m4
      have m2 : (m : Int) < (n : Int) := by omega
      have m3 : ((n : Int) == 0) = false := by rw [beq_eq_false_iff_ne]; omega
      have m6 : ¬ (n : Int) = 0 := by omega
      replace hmm := hide hmm
      replace hn := hide hn
      go_upto_region 8 with fail
      clear c0 c1
      go_region_held3 (fun w' => w'.cell? ⟨b, o, none⟩ = some (.int .i64 x) ∧ w'.cell? ⟨b1, o2, none⟩ = some (.int .i64 x)) (exact T) ((go_at_call 16; refine (HCK.out _ KK).mono ?_; rintro e w5 ⟨rfl, k5⟩; replace KK := Keeps.trans KK k5; replace T := HT.out _ KK; clear k5))
      replace HR := hide (HR.out.keeps KK)
      replace K1 := hide (K1.out.trans KK)
      clear T HT KK HCK HCELL
      go_wp2_with fail
      go_roundw
      case rel => exact UsRel.mk (j + 1) (by omega) (by go_num) HR.out K1.out
      case measure => simp [intOf]; omega
    · obtain rfl : j = l.length := by omega
      have HORD := hide (ord_cut l)
      generalize hord : ordL l l.length = ord at *
      have HCT := hide (fun W h => Cut_i u5 ord most W h (by omega) hm)
      have hA := Lr.cutAt_le ord.length most
      have hAv := Lr.cutAt_val ord.length most
      obtain ⟨ao, co, ho⟩ := RO.out.len
      rw [List.length_map] at ho
      subst ho
      generalize Lr.cutAt ord.length most = A at *
      go_wp2_with fail
      refine (HCT.out _ RO.out).mono ?_
      intro e w1 hE
      obtain ⟨va, vb, rfl, oa, ob, k1⟩ := hE
      have RA := hide oa.read
      have RB := hide ob.read
      replace K := hide (K.out.trans k1)
      clear oa ob k1 HCT
      obtain ⟨aa, ca, ha⟩ := RA.out.len
      obtain ⟨ab, cb, hb⟩ := RB.out.len
      rw [List.length_map] at ha hb
      subst ha hb
      have hla : (ord.drop A).length = ord.length - A := List.length_drop
      have hlb : (ord.take A).length = A := by rw [List.length_take]; omega
      replace HORD := hide (HORD.out A)
      generalize ord.drop A = D1 at *
      generalize ord.take A = D2 at *
      have q1 : ((D1.length : Int) + (D2.length : Int) != (ord.length : Int)) = false := by rw [bne_eq_false_iff_eq]; omega
      have q1' : (D1.length : Int) + (D2.length : Int) = (ord.length : Int) := by omega
      have q2 : (D1.length : Int) ≤ max most 0 := by omega
      have HW := hide (fun n W (kk : Keeps w W) => when_any _ l n W (RV.out.keeps kk) (by omega))
      clear hA hAv hla hlb
      go_wp2_with fail
      go_loopw [9, 10] (fun i _ wr => ∃ i' : Nat, i' ≤ D2.length ∧ i = .int .i64 i' ∧ Keeps w wr ∧ Keeps w1 wr) (fun i _ _ => D2.length - (intOf i).toNat)
      case atStart => exact ⟨0, by omega, rfl, K.out, Keeps.refl _⟩
      case round =>
        obtain ⟨i, hi, rfl, K, K1⟩ := hrel
        replace K := hide K
        replace K1 := hide K1
        by_cases hib : i < D2.length
        · have i2 : (i : Int) < (D2.length : Int) := by omega
          have i0 : (0 : Int) ≤ (i : Int) := by omega
          go_wp2_with fail
          go_loopw [10] (fun k wr => ∃ k' : Nat, k' ≤ D1.length ∧ k = .int .i64 k' ∧ Keeps w wr ∧ Keeps w1 wr) (fun k _ => D1.length - (intOf k).toNat)
          case atStart => exact ⟨0, by omega, rfl, K.out, K1.out⟩
          case round =>
            obtain ⟨k, hk, rfl, K2, K3⟩ := hrel
            replace K2 := hide K2
            replace K3 := hide K3
            by_cases hka : k < D1.length
            · have k2 : (k : Int) < (D1.length : Int) := by omega
              have k0 : (0 : Int) ≤ (k : Int) := by omega
              obtain ⟨b1, o1, rfl, _, _⟩ := RA.out.parts (by rw [List.length_map]; omega)
              obtain ⟨b2, o2, rfl, _, _⟩ := RB.out.parts (by rw [List.length_map]; omega)
              have hlt := HORD.out i k hib hka
              have HCA := hide (fun W (kk : Keeps w1 W) => row1i (RA.out.keeps kk) hka)
              have HCB := hide (fun W (kk : Keeps w1 W) => row1i (RB.out.keeps kk) hib)
              generalize hoo1 : o1 + k = p1 at *
              generalize hoo2 : o2 + i = p2 at *
              have HX := hide (HW.out D2[i])
              have HY := hide (HW.out D1[k])
              generalize D2[i] = x at *
              generalize D1[k] = y at *
              have HWB : Hid (∀ n, whenL l n l.length < 1000000 ∧ -2 < whenL l n l.length) := fun n => ⟨by have := when_lt l n l.length; omega, when_low l n l.length⟩
              have bx := HWB.out x
              have by_ := HWB.out y
              clear HWB
              generalize whenL l x l.length = X at *
              generalize whenL l y l.length = Y at *
              have hge : ¬ (Y ≤ X) := by omega
              have HXY : Hid (∀ n r, (n = x ∧ r = X) ∨ (n = y ∧ r = Y) → ∀ W, Keeps w W → Calls Try.prog 23 #[.slice a l.length cap, .int .i64 n] W fun e w' => e = .returned (.int .i64 r) ∧ Keeps W w') := by
                rintro n r (⟨rfl, rfl⟩ | ⟨rfl, rfl⟩) W kk
                · exact HX.out W kk
                · exact HY.out W kk
              clear HX HY HW
              have HT : Hid (∀ w', Keeps w1 w' → w'.cell? ⟨b1, p1, none⟩ = some (.int .i64 y) ∧ w'.cell? ⟨b2, p2, none⟩ = some (.int .i64 x)) := fun w' k => ⟨HCA.out _ k, HCB.out _ k⟩
              clear HCA HCB
              have KK := K2.out.drew
              have KJ := K3.out.drew
              have T := HT.out _ KJ
              go_upto_region 19 with fail
              go_region_held3 (fun w' => w'.cell? ⟨b1, p1, none⟩ = some (.int .i64 y) ∧ w'.cell? ⟨b2, p2, none⟩ = some (.int .i64 x)) (exact T) ((go_at_call 23; refine (HXY.out _ _ (by first | exact .inl ⟨rfl, rfl⟩ | exact .inr ⟨rfl, rfl⟩) _ KK).mono ?_; rintro e w5 ⟨rfl, k5⟩; replace KK := Keeps.trans KK k5; replace KJ := Keeps.trans KJ k5; replace T := HT.out _ KJ; clear k5))
              go_wp2_with fail
              go_roundw
              case rel => exact ⟨k + 1, by omega, by go_num, KK, KJ⟩
              case measure => simp [intOf]; omega
            · obtain rfl : k = D1.length := by omega
              go_wp2_with fail
              go_roundw
              case rel => exact ⟨i + 1, by omega, by go_num, K2.out, K3.out⟩
              case measure => simp [intOf]; omega
        · obtain rfl : i = D2.length := by omega
          go_wp2_with fail
          refine (live13_any _).mono ?_
          rintro e w2 ⟨rfl, k2⟩
          replace K := hide (K.out.trans k2)
          clear k2
          go_wp2
          go_ret
          exact ⟨rfl, K.out⟩
end Go.Proofs.Ytafkpdjcfokgbaa
