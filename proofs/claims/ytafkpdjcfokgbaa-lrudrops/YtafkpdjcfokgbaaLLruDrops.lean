/- LruDrops answers true, for every input: the walk. -/
import Derived.Test.YtafkpdjcfokgbaaLruLive
import Derived.Test.YtafkpdjcfokgbaaLruM
import Derived.Test.YtafkpdjcfokgbaaShapesI
import Derived.Test.YtafkpdjcfokgbaaShapesS
namespace Go.Proofs.Ytafkpdjcfokgbaa
open Go.RowKit

set_option maxHeartbeats 16000000 in
set_option maxRecDepth 100000 in
theorem LruDrops_walk (v : Value) (l : List (List UInt8)) (ks : ByteArray) (w : World) (hv : IsStrs w v l) (hk : ks.size ≤ maxLen) :
    Calls Try.prog 6 #[v, .string ks] w fun e w' => e = .returned (.bool true) ∧ Keeps w w' := by
  obtain ⟨k, rfl⟩ : ∃ k : List UInt8, ks = ⟨k.toArray⟩ := ⟨ks.data.toList, by cases ks; rfl⟩
  obtain ⟨hv, _, hux⟩ := hv
  replace hv := readS_row hv
  obtain ⟨a, cap, h1⟩ := hv.len
  rw [List.length_map] at h1
  subst h1
  have RV := hide hv
  replace hux := hide (show ∀ x ∈ l, kin_t x from hux)
  have K := hide (Keeps.refl w)
  clear hv hk
  by_cases g1 : (200 : Int) < (l.length : Int)
  · go_enter Try.func6, Try.ntmps6
    go_wp2_with fail
    refine (live13_any _).mono ?_
    rintro e w1 ⟨rfl, k1⟩
    replace K := hide (K.out.trans k1)
    clear k1
    go_wp2
    go_ret
    exact ⟨rfl, K.out⟩
  have hl : l.length ≤ 1000000 := by omega
  have HDL := hide (Lr.drop_len l k)
  have hkx := hide (show ∀ x ∈ Lr.drop l k, kin_t x from fun x hx => hux.out x (drop_mem hx).1)
  go_enter Try.func6, Try.ntmps6
  go_wp2_with fail
  refine (Drop_t _ l k _ (RV.out.keeps K.out) hl).mono ?_
  intro e w1 hE
  obtain ⟨vx, rfl, ox, k1⟩ := hE
  replace K := hide (K.out.trans k1)
  have RX := hide ox.read
  clear ox
  clear k1
  obtain ⟨ax, capx, h2⟩ := RX.out.len
  rw [List.length_map] at h2
  subst h2
  go_wp2_with fail
  go_loopw [6, 7] (fun c i wr => ∃ j : Nat, j ≤ l.length ∧ i = .int .i64 j ∧ c = .int .i64 ((Lr.drop (l.take j) k).length : Nat) ∧ Keeps w wr ∧ Keeps w1 wr) (fun _ i _ => l.length - (intOf i).toNat)
  case atStart => exact ⟨0, by omega, rfl, by simp [Lr.drop], K.out, Keeps.refl _⟩
  case round =>
    obtain ⟨j, hj, rfl, rfl, K, K1⟩ := hrel
    replace K := hide K
    replace K1 := hide K1
    by_cases hlt : j < l.length
    · have i2 : (j : Int) < (l.length : Int) := by omega
      have i0 : (0 : Int) ≤ (j : Int) := by omega
      have hv2 := RV.out.keeps K.out
      obtain ⟨b, off, rfl, _, _⟩ := hv2.parts (by rw [List.length_map]; omega)
      have c0 := row1t hv2 hlt
      have HST := hide (Lr.drop_step l k j hlt)
      have HAT := hide (drop_at l k j hlt)
      have HLJ := Lr.drop_len (l.take j) k
      rw [List.length_take] at HLJ
      generalize hoo : off + j = o at *
      clear hv2
      by_cases he : l[j] = k
      · have hbe2 : (l[j] == k) = true := by rw [he]; simp
        have HN : Hid (Lr.drop (l.take (j + 1)) k = Lr.drop (l.take j) k) := by rw [Hid, HST.out, if_pos he, List.append_nil]
        replace he := hide he
        clear HST HAT HLJ
        generalize l[j] = x at *
        simp only [sv] at c0
        go_wp2_with fail
        go_roundw
        case rel => exact ⟨j + 1, by omega, by go_num, by rw [HN.out], K.out, K1.out⟩
        case measure => simp [intOf]; omega
      · have hbe2 : (l[j] == k) = false := by rw [beq_eq_false_iff_ne]; exact he
        have HN : Hid ((Lr.drop (l.take (j + 1)) k).length = (Lr.drop (l.take j) k).length + 1) := by rw [Hid, HST.out, if_neg he]; simp
        obtain ⟨hat, hxe⟩ := HAT.out he
        replace he := hide he
        clear HST HAT
        obtain ⟨b2, o2, rfl, _, _⟩ := RX.out.parts (by rw [List.length_map]; omega)
        have c1 := row1t (RX.out.keeps K1.out) hat
        rw [List.getElem?_eq_getElem hat, Option.some.injEq] at hxe
        rw [hxe] at c1
        clear hxe
        generalize (Lr.drop (l.take j) k).length = m at *
        generalize hoo3 : o2 + m = o3 at *
        generalize l[j] = x at *
        have m2 : (m : Int) < ((Lr.drop l k).length : Int) := by omega
        have m3 : ¬ ((Lr.drop l k).length : Int) ≤ (m : Int) := by omega
        have m0 : (0 : Int) ≤ (m : Int) := by omega
        simp only [sv] at c0 c1
        go_upto_region 9 with fail
        go_region
        go_wp2_with fail
        go_roundw
        case rel => exact ⟨j + 1, by omega, by go_num, by rw [HN.out]; go_num, K.out.drew, K1.out.drew⟩
        case measure => simp [intOf]; omega
    · obtain rfl : j = l.length := by omega
      rw [List.take_length]
      replace RX := hide (RX.out.keeps K1.out)
      clear K1
      have HDD := hide (drop_drop13 l k)
      have HNN := hide (fun h => drop_nodup (l := l) k h)
      go_wp2_with fail
      refine (Drop_t _ (Lr.drop l k) k _ RX.out (by have := HDL.out; omega)).mono ?_
      intro e w2 hE
      obtain ⟨vy, rfl, oy, k1⟩ := hE
      replace K := hide (K.out.trans k1)
      replace RX := hide (RX.out.keeps k1)
      rw [HDD.out] at oy
      have RY := hide (row_readS oy.read)
      clear oy
      clear k1
      go_wp2_with fail
      refine (texts_any vy _ _ _ _ RY.out (row_readS RX.out) (by have := HDL.out; omega)).mono ?_
      rintro e w3 ⟨rfl, k1⟩
      rw [beq_self_eq_true]
      replace K := hide (K.out.trans k1)
      clear RY
      replace RX := hide (RX.out.keeps k1)
      clear k1
      go_wp2_with fail
      refine (Check_t _ l _ (RV.out.keeps K.out) hl hux.out).mono ?_
      rintro e w4 ⟨rfl, k1⟩
      replace K := hide (K.out.trans k1)
      replace RX := hide (RX.out.keeps k1)
      clear k1
      by_cases hnd : l.Nodup
      · have hnx := HNN.out hnd
        rw [decide_eq_true hnd]
        go_wp2_with fail
        refine (Check_t _ (Lr.drop l k) _ RX.out (by have := HDL.out; omega) hkx.out).mono ?_
        rintro e w5 ⟨rfl, k1⟩
        rw [decide_eq_true hnx]
        replace K := hide (K.out.trans k1)
        clear k1
        go_wp2_with fail
        refine (live13_any _).mono ?_
        rintro e w6 ⟨rfl, k1⟩
        replace K := hide (K.out.trans k1)
        clear k1
        go_wp2
        go_ret
        exact ⟨rfl, K.out⟩
      · rw [decide_eq_false hnd]
        go_wp2_with fail
        refine (live13_any _).mono ?_
        rintro e w6 ⟨rfl, k1⟩
        replace K := hide (K.out.trans k1)
        clear k1
        go_wp2
        go_ret
        exact ⟨rfl, K.out⟩
end Go.Proofs.Ytafkpdjcfokgbaa
