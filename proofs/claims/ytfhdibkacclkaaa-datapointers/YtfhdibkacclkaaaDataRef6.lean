/- What the document's Low of layer 5 answers. -/
import Derived.Test.YtfhdibkacclkaaaDataRef5
import Derived.Test.YtfhdibkacclkaaaNameRef1
namespace Go.Proofs.Ytfhdibkacclkaaa
open Go.RowKit

theorem low_split {k : Int} {d : List UInt8} {x : Dt.Pt} (h : Dt.wholeL k d = some x) : x.low.join = d.take (shOf k).a ++ (x.ns.map Nm.lowL).flatten ++ d.drop ((shOf k).a + x.ns.flatten.length) ∧ (shOf k).a + x.ns.flatten.length ≤ d.length := by
  obtain ⟨h1, ⟨s, hs, hf⟩ | ⟨hs, hn, rfl, ht⟩⟩ := Dt.wholeL_parts h
  · have e : shOf k = s := by simp [shOf, hs]
    rw [e]
    obtain ⟨g1, g2, g3, g4⟩ := hf
    have hd : d.drop s.a = x.ns.flatten ++ x.b := by rw [← h1, Dt.Pt.join, List.append_assoc, ← g1, List.drop_left]
    have ht : d.take s.a = x.a := by rw [← h1, Dt.Pt.join, List.append_assoc, ← g1, List.take_left]
    have hb : d.drop (s.a + x.ns.flatten.length) = x.b := by rw [← List.drop_drop, hd, List.drop_left]
    rw [ht, hb]
    refine ⟨rfl, ?_⟩
    rw [← h1]; simp only [Dt.Pt.join, List.length_append]; omega
  · have e : shOf k = ⟨0, 0, 0⟩ := by simp [shOf, hs]
    rw [e]
    simp [Dt.Pt.join, Dt.Pt.low]

def LlRel (b : List UInt8) (p : Nat) (ns : List (List UInt8)) (W : World) (o i k : Value) (wr : World) : Prop :=
  ∃ (j : Nat) (O : ByteArray), j ≤ ns.length ∧ k = .int .i64 j ∧ o = .string O ∧ bl O = b ++ ((ns.take j).map Nm.lowL).flatten ∧ i = .int .i64 (p + (ns.take j).flatten.length : Nat) ∧ Keeps W wr
theorem LlRel.mk {b : List UInt8} {p : Nat} {ns : List (List UInt8)} {W wr : World} (j q : Nat) (O : ByteArray) (h1 : j ≤ ns.length) (h2 : bl O = b ++ ((ns.take j).map Nm.lowL).flatten) (h3 : q = p + (ns.take j).flatten.length) (h4 : Keeps W wr) : LlRel b p ns W (.string O) (.int .i64 q) (.int .i64 j) wr := ⟨j, O, h1, rfl, rfl, h2, by rw [h3], h4⟩
theorem take_nextD {ns : List (List UInt8)} {j : Nat} (h : j < ns.length) : (ns.take (j + 1)).flatten = (ns.take j).flatten ++ ns[j] ∧ ((ns.take (j + 1)).map Nm.lowL).flatten = ((ns.take j).map Nm.lowL).flatten ++ Nm.lowL ns[j] := by
  rw [List.take_succ_eq_append_getElem h]
  refine ⟨by rw [List.flatten_append]; simp, by rw [List.map_append, List.flatten_append]; simp⟩
theorem flat_takeD {ns : List (List UInt8)} (h : ∀ n ∈ ns, Nm.okL n = true) (j : Nat) : (ns.take j).flatten.length ≤ 255 * j := by
  have := Dt.flatten_bound (ns.take j) (fun n hn => h n (List.mem_of_mem_take hn))
  rw [List.length_take] at this
  omega
theorem low_sizeD {O d : ByteArray} {a j : Nat} {ns : List (List UInt8)} (h : ∀ n ∈ ns, Nm.okL n = true) (hO : bl O = (bl d).take a ++ ((ns.take j).map Nm.lowL).flatten) : O.size ≤ a + 255 * j := by
  rw [← bl_length, hO, List.length_append, List.length_take, Dt.flatten_low]
  have := flat_takeD h j
  omega

set_option maxHeartbeats 4000000 in
set_option maxRecDepth 100000 in
theorem reflow5_any (k : Int) (d : ByteArray) (w : World) (hm : d.size ≤ maxLen) :
    Calls Try.prog 17 #[.int .i64 k, .string d] w fun e w' => e = .returned (.string ⟨(Dt.lowD k (bl d)).toArray⟩) ∧ Keeps w w' := by
  have hm' := hm
  unfold maxLen at hm'
  have hC := fun W => refcheck5_any k d W hm
  rw [Dt.checkB] at hC
  have HC := hide hC
  clear hC
  rcases Option.eq_none_or_eq_some (Dt.wholeL k (bl d)) with hr | ⟨x, hr⟩
  · have HF := hide (lowD_none hr)
    rw [hr, Option.isSome_none] at HC
    clear hr
    generalize Dt.lowD k (bl d) = E at *
    go_enter Try.func17, Try.ntmps17
    go_wp2_with fail
    refine (HC.out _).mono ?_
    rintro e w1 ⟨rfl, k1⟩
    clear HC
    go_wp2
    go_ret
    exact ⟨by rw [HF.out]; rfl, k1⟩
  · have hF := lowD_some hr
    have hN := fun W => refnames5_any k d W hm
    rw [namesL_some hr] at hN
    have HN := hide hN
    rw [hr, Option.isSome_some] at HC
    obtain ⟨hF2, hle⟩ := low_split hr
    rw [hF2] at hF
    have HF := hide hF
    have hsz := Dt.whole_names hr
    have hx1 := hsz.1
    have hx3 := hsz.2.2
    have HOK := hide hsz.2.1
    rw [bl_length] at hle hx3
    have hss := shOf_small k
    have HS := hide (fun W => refshape_any k W)
    clear hr hF2 hF hN hsz
    generalize Dt.lowD k (bl d) = E at *
    generalize shOf k = s at *
    have hs1 := hss.1
    clear hss
    go_enter Try.func17, Try.ntmps17
    go_wp2_with fail
    refine (HC.out _).mono ?_
    rintro e w1 ⟨rfl, k1⟩
    clear HC
    go_wp2_with fail
    refine (HN.out _).mono ?_
    rintro e w2 ⟨v, rfl, hown, k2⟩
    clear HN
    obtain ⟨ua, uc, rfl⟩ := hown.read.len
    go_wp2_with fail
    refine (HS.out _).mono ?_
    rintro e w3 ⟨rfl, k3⟩
    clear HS
    unfold shR
    have k4 := ((k1.trans k2).trans k3).alloc (.cells #[.int .i64 s.a, .int .i64 s.n, .int .i64 s.b] 44)
    have hrd := hown.read.keeps (k3.alloc (.cells #[.int .i64 s.a, .int .i64 s.n, .int .i64 s.b] 44))
    have hle2 : (s.a : Int) ≤ (d.size : Int) := by omega
    clear hown k1 k2 k3
    go_wp2_with fail
    generalize w3.alloc (.cells #[.int .i64 s.a, .int .i64 s.n, .int .i64 s.b] 44) = W at *
    have HA : Hid (bl (d.extract 0 s.a) = (bl d).take s.a) := by unfold Hid; rw [bl_extract]; simp
    generalize d.extract 0 s.a = A at *
    go_loopw [7, 8, 9] (fun o i k wr => LlRel ((bl d).take s.a) s.a x.ns W o i k wr) (fun _ _ k _ => x.ns.length - (intOf k).toNat)
    case atStart => exact LlRel.mk 0 _ A (by omega) (by rw [HA.out]; simp) (by simp) (Keeps.refl _)
    case round =>
      obtain ⟨j, O, hj, rfl, rfl, hO, rfl, hk⟩ := hrel
      have HO := hide hO
      clear hO
      have hrd2 := hrd.keeps hk
      by_cases hlt : j < x.ns.length
      · obtain ⟨b, off, cap, hv, hb, hc, hcap⟩ := hrd2.parts (by omega)
        simp only [Value.slice.injEq, true_and] at hv
        obtain ⟨rfl, rfl⟩ := hv
        have hcj := hc j hlt
        obtain ⟨X, hX⟩ : ∃ X : ByteArray, bl X = x.ns[j] := ⟨⟨x.ns[j].toArray⟩, bl_mk _⟩
        have hXo : Nm.okL (bl X) = true := by rw [hX]; exact HOK.out _ (List.getElem_mem hlt)
        have hX3 := (Dt.ok_len hXo).2
        rw [bl_length] at hX3
        have hXs : X.size ≤ maxLen := by unfold maxLen; omega
        have HL : Hid (bl (lowS X) = Nm.lowL (bl X)) := by unfold Hid; rw [lowS, if_pos hXo, bl_mk]
        have hLs : (lowS X).size ≤ 255 := by rw [← bl_length, HL.out, Nm.lowL_length, bl_length]; exact hX3
        obtain ⟨n1, n2⟩ := take_nextD hlt
        rw [← hX] at n1 n2 hcj
        rw [sv_bl] at hcj
        have n3 : s.a + (x.ns.take (j + 1)).flatten.length = s.a + (x.ns.take j).flatten.length + X.size := by rw [n1, List.length_append, bl_length]; omega
        have N2 := hide n2
        have N3 := hide n3
        have hOs : O.size ≤ s.a + 255 * j := low_sizeD HOK.out HO.out
        have hfl : (x.ns.take j).flatten.length ≤ 255 * j := flat_takeD HOK.out j
        clear hX n1 n2 n3 hc hXo
        generalize (x.ns.take j).flatten.length = q at *
        have i1 : (j : Int) < (x.ns.length : Int) := by omega
        have hadd : ∀ w, (Op.stringOp .add O (lowS X)).run Try.prog w = .ok (.string (O ++ lowS X)) w := fun w => run_string_add_sum w _ _ (by omega)
        go_wp2_with (go_at_call 20; refine (reflow_any _ _ hXs).mono ?_; rintro e w5 ⟨rfl, k5⟩; have hcj5 := (Below.cell k5 (p := ⟨b, off + j, none⟩) hb).trans hcj)
        go_roundw
        case rel =>
          have e1 : ((s.a : Int) + (q : Int)) + (X.size : Int) = ((s.a + q + X.size : Nat) : Int) := by omega
          rw [e1]
          refine LlRel.mk (j + 1) _ _ (by omega) ?_ N3.out.symm (hk.trans k5)
          rw [bl_append, HO.out, HL.out, N2.out, List.append_assoc]
        case measure => simp [intOf]; omega
      · have hjn : j = x.ns.length := by omega
        subst hjn
        rw [List.take_length] at HO
        have i1 : ¬ (x.ns.length : Int) < (x.ns.length : Int) := by omega
        have hOs : O.size ≤ s.a + 255 * x.ns.length := low_sizeD HOK.out (j := x.ns.length) (by rw [List.take_length]; exact HO.out)
        rw [List.take_length]
        have HX : Hid (bl (d.extract (s.a + x.ns.flatten.length) d.size) = (bl d).drop (s.a + x.ns.flatten.length)) := by
          unfold Hid
          rw [bl_extract]
          exact List.take_of_length_le (by rw [List.length_drop, bl_length]; omega)
        generalize x.ns.flatten.length = q at *
        go_wp2
        go_ret
        refine ⟨ret_str (bl_inj ?_), k4.trans hk⟩
        have e1 : bl ⟨E.toArray⟩ = E := bl_mk _
        rw [e1, bl_append, HX.out, HO.out, HF.out]
end Go.Proofs.Ytfhdibkacclkaaa
