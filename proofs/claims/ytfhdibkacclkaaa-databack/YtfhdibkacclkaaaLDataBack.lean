/- DataBack answers true, for every input: the walk. -/
import Derived.Test.YtfhdibkacclkaaaLDataExpands
import Derived.Test.YtfhdibkacclkaaaLDataTells
namespace Go.Proofs.Ytfhdibkacclkaaa
open Go.RowKit

/-- What Expand can answer. -/
theorem exp_kinds (m : ByteArray) (p n k : Int) :
    ((Dt.expL (bl m) p n k).e = 2 ∧ Oct.takeOk m p n = false) ∨ ((Dt.expL (bl m) p n k).e = 4 ∧ Oct.takeOk m p n = true) ∨ ((Dt.expL (bl m) p n k).e = 0 ∧ Oct.takeOk m p n = true ∧ Dt.checkB k (bl (erS (Dt.expL (bl m) p n k))) = true) := by
  cases ho : Oct.takeOk m p n
  · rw [exp_out ho]; simp
  · have h2 := ho
    simp only [Oct.takeOk, decide_eq_true_eq] at h2
    obtain ⟨p', rfl⟩ := Int.eq_ofNat_of_zero_le h2.1
    obtain ⟨n', rfl⟩ := Int.eq_ofNat_of_zero_le h2.2.1
    have h : p' + n' ≤ m.size := by omega
    rcases Option.eq_none_or_eq_some (Dt.splitL (bl m) p' n' k) with hs | ⟨x, hs⟩
    · rw [exp_no h hs]; simp
    · rw [exp_yes h hs]
      refine .inr (.inr ⟨rfl, rfl, ?_⟩)
      have e : bl (erS ⟨x.join, 0⟩) = x.join := bl_mk _
      rw [e, Dt.checkB, Dt.split_whole (by rw [bl_length]; exact h) hs]
      rfl
theorem exp_size (m : ByteArray) (p n k : Int) (_ : m.size ≤ 2000) : (erS (Dt.expL (bl m) p n k)).size ≤ 65535 := by
  have e0 : (erS ⟨[], 2⟩).size = 0 := rfl
  have e1 : (erS ⟨[], 4⟩).size = 0 := rfl
  cases ho : Oct.takeOk m p n
  · rw [exp_out ho]; omega
  · have h2 := ho
    simp only [Oct.takeOk, decide_eq_true_eq] at h2
    obtain ⟨p', rfl⟩ := Int.eq_ofNat_of_zero_le h2.1
    obtain ⟨n', rfl⟩ := Int.eq_ofNat_of_zero_le h2.2.1
    have h : p' + n' ≤ m.size := by omega
    rcases Option.eq_none_or_eq_some (Dt.splitL (bl m) p' n' k) with hs | ⟨x, hs⟩
    · rw [exp_no h hs]; omega
    · rw [exp_yes h hs, ← bl_length]
      have e : bl (erS ⟨x.join, 0⟩) = x.join := bl_mk _
      rw [e]
      exact (Dt.split_len (by rw [bl_length]; exact h) hs).1
/-- What is whole, as it stands and in small letters. -/
theorem back_facts {k : Int} {m L : ByteArray} {x : Dt.Pt} (h : Dt.wholeL k (bl m) = some x) (hL : L = ⟨(Dt.lowD k (bl m)).toArray⟩) :
    erS (Dt.expL (bl m) 0 m.size k) = m ∧ (Dt.expL (bl m) 0 m.size k).e = 0 ∧ L.size = m.size ∧ Dt.checkB k (bl L) = true ∧ (⟨(Dt.lowD k (bl L)).toArray⟩ : ByteArray) = L ∧ Dt.namesL k (bl m) = x.ns ∧ Dt.namesL k (bl L) = x.ns.map Nm.lowL := by
  obtain ⟨h1, h2⟩ := Dt.wholeL_join h
  rw [bl_length] at h2
  have e := exp_yes (m := m) (p := 0) (n := m.size) (by omega) h2
  rw [Int.ofNat_zero] at e
  have hb : bl L = x.low.join := by rw [hL, bl_mk, lowD_some h]
  have hw := Dt.low_whole h
  rw [e]
  refine ⟨bl_inj (by rw [erS, bl_mk, h1]), rfl, ?_, ?_, ?_, namesL_some h, ?_⟩
  · rw [← bl_length, hb, Dt.low_length, h1, bl_length]
  · rw [hb, Dt.checkB, hw]; rfl
  · apply bl_inj
    rw [bl_mk, hb, lowD_some hw, Dt.low_twice]
  · rw [hb, namesL_some hw]; rfl

theorem row_at {w : World} {b off cap : Nat} {ls : List (List UInt8)} (h : ReadS w (.slice (some ⟨b, off, none⟩) ls.length cap) ls) (j : Nat) (hj : j < ls.length) (X : ByteArray) (hX : bl X = ls[j]) : w.cell? ⟨b, off + j, none⟩ = some (.string X) ∧ b < w.heap.size := by
  obtain ⟨b', off', cap', hv, hb, hc, _⟩ := h.parts (by omega)
  simp only [Value.slice.injEq, Option.some.injEq, Addr.mk.injEq, and_true, true_and] at hv
  obtain ⟨⟨rfl, rfl⟩, rfl⟩ := hv
  have := hc j hj
  rw [← hX, sv_bl] at this
  exact ⟨this, hb⟩
/-- Two cells of two rows. -/
def Pair (a : Addr) (x : Value) (b : Addr) (y : Value) (w : World) : Prop := w.cell? a = some x ∧ w.cell? b = some y ∧ a.block < w.heap.size ∧ b.block < w.heap.size
theorem Pair.keeps {a b : Addr} {x y : Value} {w w' : World} (h : Pair a x b y w) (hk : Keeps w w') : Pair a x b y w' :=
  ⟨(hk.cell h.2.2.1).trans h.1, (hk.cell h.2.2.2).trans h.2.1, Nat.lt_of_lt_of_le h.2.2.1 hk.size, Nat.lt_of_lt_of_le h.2.2.2 hk.size⟩

set_option maxHeartbeats 8000000 in
set_option maxRecDepth 100000 in
theorem DataBack_walk (m : ByteArray) (p n k : Int) (w : World) (hm : m.size ≤ maxLen) (hp : -9223372036854775808 ≤ p ∧ p ≤ 9223372036854775807) (_ : -9223372036854775808 ≤ n ∧ n ≤ 9223372036854775807) (_ : -9223372036854775808 ≤ k ∧ k ≤ 9223372036854775807) :
    Calls Try.prog 5 #[.string m, .agg #[.int .i64 p, .int .i64 n], .int .i64 k] w fun e w' => e = .returned (.bool true) ∧ Keeps w w' := by
  have hm' := hm
  unfold maxLen at hm'
  by_cases hl : 2000 < (m.size : Int)
  · go_enter Try.func5, Try.ntmps5
    go_wp2_with (go_at_call 8; refine (live5_any _).mono ?_; rintro e w3 ⟨rfl, k3⟩)
    go_ret
    exact ⟨rfl, ((Keeps.refl _).alloc _).trans k3⟩
  have B0 := Box2.made w (.int .i64 p) (.int .i64 n) 22
  have K := (Keeps.refl w).alloc (.cells #[.int .i64 p, .int .i64 n] 22)
  have HC := hide (fun W => expand_any m p n k W hm hp.2)
  have HT := hide (fun W => reftake_any m p n W hm hp.2)
  have hkk := exp_kinds m p n k
  have hxs := exp_size m p n k (by omega)
  generalize Dt.expL (bl m) p n k = E at *
  generalize erS E = X at *
  generalize E.e = Y at *
  generalize Oct.takeS m p n = Z at *
  generalize Oct.takeOk m p n = ok at *
  have hxm : X.size ≤ maxLen := by unfold maxLen; omega
  have HX := hide (fun W => dcheck_any k X W hxm)
  have HM := hide (fun W => dcheck_any k m W hm)
  cases hM : Dt.checkB k (bl m)
  · rcases hkk with ⟨rfl, rfl⟩ | ⟨rfl, rfl⟩ | ⟨rfl, rfl, hc⟩
    · go_enter Try.func5, Try.ntmps5
      go_wp2_with fail
      refine (HC.out _).mono ?_
      rintro e wk ⟨rfl, k1⟩
      replace K := K.trans k1
      replace B0 := B0.keeps k1
      clear k1
      have c0 := B0.1
      have c1 := B0.2.1
      go_wp2_with fail
      refine (HT.out _).mono ?_
      rintro e wk ⟨rfl, hw⟩
      subst hw
      go_wp2_with fail
      refine (HM.out _).mono ?_
      rintro e wk ⟨rfl, k1⟩
      replace K := K.trans k1
      replace B0 := B0.keeps k1
      clear k1
      have c0 := B0.1
      have c1 := B0.2.1
      rw [hM]
      go_wp2_with fail
      refine (live5_any _).mono ?_
      rintro e wk ⟨rfl, k1⟩
      replace K := K.trans k1
      replace B0 := B0.keeps k1
      clear k1
      have c0 := B0.1
      have c1 := B0.2.1
      go_wp2
      go_ret
      exact ⟨rfl, K⟩
    · go_enter Try.func5, Try.ntmps5
      go_wp2_with fail
      refine (HC.out _).mono ?_
      rintro e wk ⟨rfl, k1⟩
      replace K := K.trans k1
      replace B0 := B0.keeps k1
      clear k1
      have c0 := B0.1
      have c1 := B0.2.1
      go_wp2_with fail
      refine (HT.out _).mono ?_
      rintro e wk ⟨rfl, hw⟩
      subst hw
      go_wp2_with fail
      refine (HM.out _).mono ?_
      rintro e wk ⟨rfl, k1⟩
      replace K := K.trans k1
      replace B0 := B0.keeps k1
      clear k1
      have c0 := B0.1
      have c1 := B0.2.1
      rw [hM]
      go_wp2_with fail
      refine (live5_any _).mono ?_
      rintro e wk ⟨rfl, k1⟩
      replace K := K.trans k1
      replace B0 := B0.keeps k1
      clear k1
      have c0 := B0.1
      have c1 := B0.2.1
      go_wp2
      go_ret
      exact ⟨rfl, K⟩
    · go_enter Try.func5, Try.ntmps5
      go_wp2_with fail
      refine (HC.out _).mono ?_
      rintro e wk ⟨rfl, k1⟩
      replace K := K.trans k1
      replace B0 := B0.keeps k1
      clear k1
      have c0 := B0.1
      have c1 := B0.2.1
      go_wp2_with fail
      refine (HX.out _).mono ?_
      rintro e wk ⟨rfl, k1⟩
      replace K := K.trans k1
      replace B0 := B0.keeps k1
      clear k1
      have c0 := B0.1
      have c1 := B0.2.1
      rw [hc]
      go_wp2_with fail
      refine (HT.out _).mono ?_
      rintro e wk ⟨rfl, hw⟩
      subst hw
      go_wp2_with fail
      refine (HM.out _).mono ?_
      rintro e wk ⟨rfl, k1⟩
      replace K := K.trans k1
      replace B0 := B0.keeps k1
      clear k1
      have c0 := B0.1
      have c1 := B0.2.1
      rw [hM]
      go_wp2_with fail
      refine (live5_any _).mono ?_
      rintro e wk ⟨rfl, k1⟩
      replace K := K.trans k1
      replace B0 := B0.keeps k1
      clear k1
      have c0 := B0.1
      have c1 := B0.2.1
      go_wp2
      go_ret
      exact ⟨rfl, K⟩
  obtain ⟨x, hx⟩ : ∃ x, Dt.wholeL k (bl m) = some x := Option.isSome_iff_exists.1 hM
  obtain ⟨f1, f2, f3, f4, f5, f6, f7⟩ := back_facts hx rfl
  have hnm := Dt.whole_names hx
  have hn2 := hnm.1
  have HOK := hide hnm.2.1
  have HF := hide (fun W => expand_any m 0 m.size k W hm (by omega))
  have HL := hide (fun W => dlow_any k m W hm)
  have hA := fun W => dnames_any k m W hm
  rw [f6] at hA
  have HA := hide hA
  clear hA f6 hnm hx
  generalize (⟨(Dt.lowD k (bl m)).toArray⟩ : ByteArray) = L at *
  have hLm : L.size ≤ maxLen := by rw [f3]; exact hm
  have hB := fun W => dnames_any k L W hLm
  rw [f7] at hB
  have HB := hide hB
  have HN := hide (fun W => dcheck_any k L W hLm)
  have HO := hide (fun W => dlow_any k L W hLm)
  clear hB f7
  have f3' : ((L.size : Int) != (m.size : Int)) = false := by rw [f3]; simp
  clear f3
  rcases hkk with ⟨rfl, rfl⟩ | ⟨rfl, rfl⟩ | ⟨rfl, rfl, hc⟩
  · go_enter Try.func5, Try.ntmps5
    go_wp2_with fail
    refine (HC.out _).mono ?_
    rintro e wk ⟨rfl, k1⟩
    replace K := K.trans k1
    replace B0 := B0.keeps k1
    clear k1
    have c0 := B0.1
    have c1 := B0.2.1
    go_wp2_with fail
    refine (HT.out _).mono ?_
    rintro e wk ⟨rfl, hw⟩
    subst hw
    go_wp2_with fail
    refine (HM.out _).mono ?_
    rintro e wk ⟨rfl, k1⟩
    replace K := K.trans k1
    replace B0 := B0.keeps k1
    clear k1
    have c0 := B0.1
    have c1 := B0.2.1
    rw [hM]
    go_wp2_with fail
    refine (HF.out _).mono ?_
    rintro e wk ⟨rfl, k1⟩
    replace K := K.trans k1
    replace B0 := B0.keeps k1
    clear k1
    have c0 := B0.1
    have c1 := B0.2.1
    rw [f1, f2]
    go_wp2_with fail
    refine (HL.out _).mono ?_
    rintro e wk ⟨rfl, k1⟩
    replace K := K.trans k1
    replace B0 := B0.keeps k1
    clear k1
    have c0 := B0.1
    have c1 := B0.2.1
    go_wp2_with fail
    refine (HA.out _).mono ?_
    rintro e wk ⟨va, rfl, oa, k1⟩
    replace K := K.trans k1
    obtain ⟨aa, ca, rfl⟩ := oa.read.len
    have RA := oa.read
    clear oa k1
    go_wp2_with fail
    refine (HB.out _).mono ?_
    rintro e wk ⟨vb, rfl, ob, k1⟩
    replace K := K.trans k1
    obtain ⟨ab, cb, hvb⟩ := ob.read.len
    rw [List.length_map] at hvb
    subst hvb
    have RB := ob.read
    replace RA := RA.keeps k1
    clear ob k1 B0 c0 c1
    go_wp2_with fail
    refine (HN.out _).mono ?_
    rintro e wk ⟨rfl, k1⟩
    replace K := K.trans k1
    replace RA := RA.keeps k1
    replace RB := RB.keeps k1
    clear k1
    rw [f4]
    go_wp2_with fail
    refine (HO.out _).mono ?_
    rintro e wk ⟨rfl, k1⟩
    replace K := K.trans k1
    replace RA := RA.keeps k1
    replace RB := RB.keeps k1
    clear k1
    rw [f5]
    go_wp2_with fail
    go_loopw [16] (fun i wr => ∃ j : Nat, j ≤ x.ns.length ∧ i = .int .i64 j ∧ Keeps wk wr) (fun i _ => x.ns.length - (intOf i).toNat)
    case atStart => exact ⟨0, by omega, rfl, Keeps.refl _⟩
    case round =>
      obtain ⟨j, hj, rfl, hk⟩ := hrel
      replace RA := RA.keeps hk
      replace RB := RB.keeps hk
      replace K := K.trans hk
      by_cases hlt : j < x.ns.length
      · have hlt2 : j < (x.ns.map Nm.lowL).length := by rw [List.length_map]; exact hlt
        have i1 : (j : Int) < (x.ns.length : Int) := by omega
        have i0 : (0 : Int) ≤ (j : Int) := by omega
        obtain ⟨b, o, _, hv, _⟩ := RA.parts (by omega)
        simp only [Value.slice.injEq, true_and] at hv
        obtain ⟨rfl, rfl⟩ := hv
        rw [← List.length_map (f := Nm.lowL)] at RB
        obtain ⟨b2, o2, _, hv, _⟩ := RB.parts (by omega)
        simp only [Value.slice.injEq, true_and] at hv
        obtain ⟨rfl, rfl⟩ := hv
        obtain ⟨X1, hX1⟩ : ∃ X : ByteArray, bl X = x.ns[j] := ⟨⟨x.ns[j].toArray⟩, bl_mk _⟩
        have hXo : Nm.okL (bl X1) = true := by rw [hX1]; exact HOK.out _ (List.getElem_mem hlt)
        have hX3 := (Dt.ok_len hXo).2
        rw [bl_length] at hX3
        have hXs : X1.size ≤ maxLen := by unfold maxLen; omega
        have hL1 : bl (lowS X1) = Nm.lowL (bl X1) := by rw [lowS, if_pos hXo, bl_mk]
        have hLs : (lowS X1).size ≤ maxLen := by rw [← bl_length, hL1, Nm.lowL_length, bl_length]; exact hXs
        have hsm : Nm.sameB (bl X1) (bl (lowS X1)) = true := by
          rw [Cm.sameB_spec, hL1, Nm.ok_low, Nm.lowL_twice]
          exact ⟨hXo, hXo, rfl⟩
        obtain ⟨q1, q2⟩ := row_at RA j hlt X1 hX1
        obtain ⟨q3, q4⟩ := row_at RB j hlt2 (lowS X1) (by rw [hL1, List.getElem_map, hX1])
        rw [List.length_map] at RB
        have hS := fun W => refsame_any X1 (lowS X1) W hXs hLs
        rw [hsm] at hS
        have HS := hide hS
        have HW := hide (fun W => reflow_any X1 W hXs)
        clear hX1 hXo hL1 hlt2 hS hsm
        generalize lowS X1 = L1 at *
        go_wp2_with fail
        have T1 : Pair ⟨b, o + j, none⟩ (.string X1) ⟨b2, o2 + j, none⟩ (.string L1) wr.drew := ⟨q1, q3, q2, q4⟩
        go_region_held3 (fun w' => w'.cell? ⟨b, o + j, none⟩ = some (.string X1) ∧ w'.cell? ⟨b2, o2 + j, none⟩ = some (.string L1) ∧ b < w'.heap.size ∧ b2 < w'.heap.size) ((first | exact T1 | exact Pair.keeps T1 (by assumption) | exact Pair.keeps (Pair.keeps T1 (by assumption)) (by assumption))) ((first | (go_at_call 19; refine (HS.out _).mono ?_; rintro e w5 ⟨rfl, k5⟩) | (go_at_call 20; refine (HW.out _).mono ?_; rintro e w6 ⟨rfl, k6⟩)))
        go_wp2
        go_roundw
        case rel => exact ⟨j + 1, by omega, rfl, ((hk.drew).trans k5).trans k6⟩
        case measure => simp [intOf]; omega
      · have i1 : ¬ (j : Int) < (x.ns.length : Int) := by omega
        go_wp2_with fail
        refine (live5_any _).mono ?_
        rintro e wk ⟨rfl, k1⟩
        replace K := K.trans k1
        go_wp2
        go_ret
        exact ⟨rfl, K⟩
  · go_enter Try.func5, Try.ntmps5
    go_wp2_with fail
    refine (HC.out _).mono ?_
    rintro e wk ⟨rfl, k1⟩
    replace K := K.trans k1
    replace B0 := B0.keeps k1
    clear k1
    have c0 := B0.1
    have c1 := B0.2.1
    go_wp2_with fail
    refine (HT.out _).mono ?_
    rintro e wk ⟨rfl, hw⟩
    subst hw
    go_wp2_with fail
    refine (HM.out _).mono ?_
    rintro e wk ⟨rfl, k1⟩
    replace K := K.trans k1
    replace B0 := B0.keeps k1
    clear k1
    have c0 := B0.1
    have c1 := B0.2.1
    rw [hM]
    go_wp2_with fail
    refine (HF.out _).mono ?_
    rintro e wk ⟨rfl, k1⟩
    replace K := K.trans k1
    replace B0 := B0.keeps k1
    clear k1
    have c0 := B0.1
    have c1 := B0.2.1
    rw [f1, f2]
    go_wp2_with fail
    refine (HL.out _).mono ?_
    rintro e wk ⟨rfl, k1⟩
    replace K := K.trans k1
    replace B0 := B0.keeps k1
    clear k1
    have c0 := B0.1
    have c1 := B0.2.1
    go_wp2_with fail
    refine (HA.out _).mono ?_
    rintro e wk ⟨va, rfl, oa, k1⟩
    replace K := K.trans k1
    obtain ⟨aa, ca, rfl⟩ := oa.read.len
    have RA := oa.read
    clear oa k1
    go_wp2_with fail
    refine (HB.out _).mono ?_
    rintro e wk ⟨vb, rfl, ob, k1⟩
    replace K := K.trans k1
    obtain ⟨ab, cb, hvb⟩ := ob.read.len
    rw [List.length_map] at hvb
    subst hvb
    have RB := ob.read
    replace RA := RA.keeps k1
    clear ob k1 B0 c0 c1
    go_wp2_with fail
    refine (HN.out _).mono ?_
    rintro e wk ⟨rfl, k1⟩
    replace K := K.trans k1
    replace RA := RA.keeps k1
    replace RB := RB.keeps k1
    clear k1
    rw [f4]
    go_wp2_with fail
    refine (HO.out _).mono ?_
    rintro e wk ⟨rfl, k1⟩
    replace K := K.trans k1
    replace RA := RA.keeps k1
    replace RB := RB.keeps k1
    clear k1
    rw [f5]
    go_wp2_with fail
    go_loopw [16] (fun i wr => ∃ j : Nat, j ≤ x.ns.length ∧ i = .int .i64 j ∧ Keeps wk wr) (fun i _ => x.ns.length - (intOf i).toNat)
    case atStart => exact ⟨0, by omega, rfl, Keeps.refl _⟩
    case round =>
      obtain ⟨j, hj, rfl, hk⟩ := hrel
      replace RA := RA.keeps hk
      replace RB := RB.keeps hk
      replace K := K.trans hk
      by_cases hlt : j < x.ns.length
      · have hlt2 : j < (x.ns.map Nm.lowL).length := by rw [List.length_map]; exact hlt
        have i1 : (j : Int) < (x.ns.length : Int) := by omega
        have i0 : (0 : Int) ≤ (j : Int) := by omega
        obtain ⟨b, o, _, hv, _⟩ := RA.parts (by omega)
        simp only [Value.slice.injEq, true_and] at hv
        obtain ⟨rfl, rfl⟩ := hv
        rw [← List.length_map (f := Nm.lowL)] at RB
        obtain ⟨b2, o2, _, hv, _⟩ := RB.parts (by omega)
        simp only [Value.slice.injEq, true_and] at hv
        obtain ⟨rfl, rfl⟩ := hv
        obtain ⟨X1, hX1⟩ : ∃ X : ByteArray, bl X = x.ns[j] := ⟨⟨x.ns[j].toArray⟩, bl_mk _⟩
        have hXo : Nm.okL (bl X1) = true := by rw [hX1]; exact HOK.out _ (List.getElem_mem hlt)
        have hX3 := (Dt.ok_len hXo).2
        rw [bl_length] at hX3
        have hXs : X1.size ≤ maxLen := by unfold maxLen; omega
        have hL1 : bl (lowS X1) = Nm.lowL (bl X1) := by rw [lowS, if_pos hXo, bl_mk]
        have hLs : (lowS X1).size ≤ maxLen := by rw [← bl_length, hL1, Nm.lowL_length, bl_length]; exact hXs
        have hsm : Nm.sameB (bl X1) (bl (lowS X1)) = true := by
          rw [Cm.sameB_spec, hL1, Nm.ok_low, Nm.lowL_twice]
          exact ⟨hXo, hXo, rfl⟩
        obtain ⟨q1, q2⟩ := row_at RA j hlt X1 hX1
        obtain ⟨q3, q4⟩ := row_at RB j hlt2 (lowS X1) (by rw [hL1, List.getElem_map, hX1])
        rw [List.length_map] at RB
        have hS := fun W => refsame_any X1 (lowS X1) W hXs hLs
        rw [hsm] at hS
        have HS := hide hS
        have HW := hide (fun W => reflow_any X1 W hXs)
        clear hX1 hXo hL1 hlt2 hS hsm
        generalize lowS X1 = L1 at *
        go_wp2_with fail
        have T1 : Pair ⟨b, o + j, none⟩ (.string X1) ⟨b2, o2 + j, none⟩ (.string L1) wr.drew := ⟨q1, q3, q2, q4⟩
        go_region_held3 (fun w' => w'.cell? ⟨b, o + j, none⟩ = some (.string X1) ∧ w'.cell? ⟨b2, o2 + j, none⟩ = some (.string L1) ∧ b < w'.heap.size ∧ b2 < w'.heap.size) ((first | exact T1 | exact Pair.keeps T1 (by assumption) | exact Pair.keeps (Pair.keeps T1 (by assumption)) (by assumption))) ((first | (go_at_call 19; refine (HS.out _).mono ?_; rintro e w5 ⟨rfl, k5⟩) | (go_at_call 20; refine (HW.out _).mono ?_; rintro e w6 ⟨rfl, k6⟩)))
        go_wp2
        go_roundw
        case rel => exact ⟨j + 1, by omega, rfl, ((hk.drew).trans k5).trans k6⟩
        case measure => simp [intOf]; omega
      · have i1 : ¬ (j : Int) < (x.ns.length : Int) := by omega
        go_wp2_with fail
        refine (live5_any _).mono ?_
        rintro e wk ⟨rfl, k1⟩
        replace K := K.trans k1
        go_wp2
        go_ret
        exact ⟨rfl, K⟩
  · go_enter Try.func5, Try.ntmps5
    go_wp2_with fail
    refine (HC.out _).mono ?_
    rintro e wk ⟨rfl, k1⟩
    replace K := K.trans k1
    replace B0 := B0.keeps k1
    clear k1
    have c0 := B0.1
    have c1 := B0.2.1
    go_wp2_with fail
    refine (HX.out _).mono ?_
    rintro e wk ⟨rfl, k1⟩
    replace K := K.trans k1
    replace B0 := B0.keeps k1
    clear k1
    have c0 := B0.1
    have c1 := B0.2.1
    rw [hc]
    go_wp2_with fail
    refine (HT.out _).mono ?_
    rintro e wk ⟨rfl, hw⟩
    subst hw
    go_wp2_with fail
    refine (HM.out _).mono ?_
    rintro e wk ⟨rfl, k1⟩
    replace K := K.trans k1
    replace B0 := B0.keeps k1
    clear k1
    have c0 := B0.1
    have c1 := B0.2.1
    rw [hM]
    go_wp2_with fail
    refine (HF.out _).mono ?_
    rintro e wk ⟨rfl, k1⟩
    replace K := K.trans k1
    replace B0 := B0.keeps k1
    clear k1
    have c0 := B0.1
    have c1 := B0.2.1
    rw [f1, f2]
    go_wp2_with fail
    refine (HL.out _).mono ?_
    rintro e wk ⟨rfl, k1⟩
    replace K := K.trans k1
    replace B0 := B0.keeps k1
    clear k1
    have c0 := B0.1
    have c1 := B0.2.1
    go_wp2_with fail
    refine (HA.out _).mono ?_
    rintro e wk ⟨va, rfl, oa, k1⟩
    replace K := K.trans k1
    obtain ⟨aa, ca, rfl⟩ := oa.read.len
    have RA := oa.read
    clear oa k1
    go_wp2_with fail
    refine (HB.out _).mono ?_
    rintro e wk ⟨vb, rfl, ob, k1⟩
    replace K := K.trans k1
    obtain ⟨ab, cb, hvb⟩ := ob.read.len
    rw [List.length_map] at hvb
    subst hvb
    have RB := ob.read
    replace RA := RA.keeps k1
    clear ob k1 B0 c0 c1
    go_wp2_with fail
    refine (HN.out _).mono ?_
    rintro e wk ⟨rfl, k1⟩
    replace K := K.trans k1
    replace RA := RA.keeps k1
    replace RB := RB.keeps k1
    clear k1
    rw [f4]
    go_wp2_with fail
    refine (HO.out _).mono ?_
    rintro e wk ⟨rfl, k1⟩
    replace K := K.trans k1
    replace RA := RA.keeps k1
    replace RB := RB.keeps k1
    clear k1
    rw [f5]
    go_wp2_with fail
    go_loopw [16] (fun i wr => ∃ j : Nat, j ≤ x.ns.length ∧ i = .int .i64 j ∧ Keeps wk wr) (fun i _ => x.ns.length - (intOf i).toNat)
    case atStart => exact ⟨0, by omega, rfl, Keeps.refl _⟩
    case round =>
      obtain ⟨j, hj, rfl, hk⟩ := hrel
      replace RA := RA.keeps hk
      replace RB := RB.keeps hk
      replace K := K.trans hk
      by_cases hlt : j < x.ns.length
      · have hlt2 : j < (x.ns.map Nm.lowL).length := by rw [List.length_map]; exact hlt
        have i1 : (j : Int) < (x.ns.length : Int) := by omega
        have i0 : (0 : Int) ≤ (j : Int) := by omega
        obtain ⟨b, o, _, hv, _⟩ := RA.parts (by omega)
        simp only [Value.slice.injEq, true_and] at hv
        obtain ⟨rfl, rfl⟩ := hv
        rw [← List.length_map (f := Nm.lowL)] at RB
        obtain ⟨b2, o2, _, hv, _⟩ := RB.parts (by omega)
        simp only [Value.slice.injEq, true_and] at hv
        obtain ⟨rfl, rfl⟩ := hv
        obtain ⟨X1, hX1⟩ : ∃ X : ByteArray, bl X = x.ns[j] := ⟨⟨x.ns[j].toArray⟩, bl_mk _⟩
        have hXo : Nm.okL (bl X1) = true := by rw [hX1]; exact HOK.out _ (List.getElem_mem hlt)
        have hX3 := (Dt.ok_len hXo).2
        rw [bl_length] at hX3
        have hXs : X1.size ≤ maxLen := by unfold maxLen; omega
        have hL1 : bl (lowS X1) = Nm.lowL (bl X1) := by rw [lowS, if_pos hXo, bl_mk]
        have hLs : (lowS X1).size ≤ maxLen := by rw [← bl_length, hL1, Nm.lowL_length, bl_length]; exact hXs
        have hsm : Nm.sameB (bl X1) (bl (lowS X1)) = true := by
          rw [Cm.sameB_spec, hL1, Nm.ok_low, Nm.lowL_twice]
          exact ⟨hXo, hXo, rfl⟩
        obtain ⟨q1, q2⟩ := row_at RA j hlt X1 hX1
        obtain ⟨q3, q4⟩ := row_at RB j hlt2 (lowS X1) (by rw [hL1, List.getElem_map, hX1])
        rw [List.length_map] at RB
        have hS := fun W => refsame_any X1 (lowS X1) W hXs hLs
        rw [hsm] at hS
        have HS := hide hS
        have HW := hide (fun W => reflow_any X1 W hXs)
        clear hX1 hXo hL1 hlt2 hS hsm
        generalize lowS X1 = L1 at *
        go_wp2_with fail
        have T1 : Pair ⟨b, o + j, none⟩ (.string X1) ⟨b2, o2 + j, none⟩ (.string L1) wr.drew := ⟨q1, q3, q2, q4⟩
        go_region_held3 (fun w' => w'.cell? ⟨b, o + j, none⟩ = some (.string X1) ∧ w'.cell? ⟨b2, o2 + j, none⟩ = some (.string L1) ∧ b < w'.heap.size ∧ b2 < w'.heap.size) ((first | exact T1 | exact Pair.keeps T1 (by assumption) | exact Pair.keeps (Pair.keeps T1 (by assumption)) (by assumption))) ((first | (go_at_call 19; refine (HS.out _).mono ?_; rintro e w5 ⟨rfl, k5⟩) | (go_at_call 20; refine (HW.out _).mono ?_; rintro e w6 ⟨rfl, k6⟩)))
        go_wp2
        go_roundw
        case rel => exact ⟨j + 1, by omega, rfl, ((hk.drew).trans k5).trans k6⟩
        case measure => simp [intOf]; omega
      · have i1 : ¬ (j : Int) < (x.ns.length : Int) := by omega
        go_wp2_with fail
        refine (live5_any _).mono ?_
        rintro e wk ⟨rfl, k1⟩
        replace K := K.trans k1
        go_wp2
        go_ret
        exact ⟨rfl, K⟩
end Go.Proofs.Ytfhdibkacclkaaa
