/- GroupBack answers true, for every input: the walk. -/
import Derived.Test.YtdfhojhljfcolaaGrpLive
import Derived.Test.YtdfhojhljfcolaaGrp9
import Derived.Test.YtdfhojhljfcolaaGrp4
import Derived.Test.YtdfhojhljfcolaaGrpN
import Derived.Test.YtdfhojhljfcolaaShapesG
import Derived.Test.YtdfhojhljfcolaaMsgW7
import Derived.Deep.RegionHeld3
namespace Go.Proofs.Ytdfhojhljfcolaa
open Go.RowKit

theorem one_set {w : World} {v : Value} {x : St} (h : SetsAt w v [x]) : ∃ g off cap vx, v = .slice (some ⟨g, off, none⟩) 1 cap ∧ ReadS w vx x.ds ∧ OneAt w g off x vx := by
  obtain ⟨ss, h1, h2, h3⟩ := h
  match ss, h1 with
  | [(a, va)], h1 =>
    simp only [List.map_cons, List.map_nil, List.cons.injEq, and_true] at h1
    subst h1
    obtain ⟨ad, cap, rfl, _, h5⟩ := h2
    obtain ⟨g, off, rfl, hg, hc⟩ := h5 (by simp)
    exact ⟨g, off, cap, va, rfl, h3 (a, va) (by simp), hc 0 (by simp) 0 (by decide), hc 0 (by simp) 1 (by decide), hc 0 (by simp) 2 (by decide), hc 0 (by simp) 3 (by decide), hc 0 (by simp) 4 (by decide), hg⟩
theorem flat_fine {s : St} (hf : StFine s) (x y : Int) : ∀ r ∈ flatM s x y, r.n.size ≤ maxLen ∧ r.d.size ≤ maxLen := by
  intro r hr
  unfold flatM at hr
  split at hr
  · rw [List.mem_map] at hr
    obtain ⟨d, hd, rfl⟩ := hr
    refine ⟨hf.1, ?_⟩
    have := hf.2.2 d ((turned_mem _ _ _).1 hd)
    show d.toArray.size ≤ maxLen
    simpa using this
  · simp at hr
theorem flat_len_yes {s : St} {x y : Int} (h : stOk s = true) (ht : 0 ≤ x ∧ x ≤ 2147483647) (hk : 0 ≤ y) : (flatM s x y).length = s.ds.length := by
  rw [flat_yes h ht hk, List.length_map, turned_length]

set_option maxHeartbeats 8000000 in
set_option maxRecDepth 100000 in
theorem GroupBack_walk (v : Value) (s : St) (x y : Int) (w : World) (hv : StAt w v s) (hf : StFine s) (_ : StIn s) (_ : -9223372036854775808 ≤ x ∧ x ≤ 9223372036854775807) (_ : -9223372036854775808 ≤ y ∧ y ≤ 9223372036854775807) :
    Calls Try.prog 5 #[v, .agg #[.int .i64 x, .int .i64 y]] w fun e w' => e = .returned (.bool true) ∧ Keeps w w' := by
  have HS := hide (fun W (k : Keeps w W) => SmallS_any v s W (hv.keeps k) hf)
  have HC := hide (fun W (k : Keeps w W) => GCheck_any v s W (hv.keeps k) hf)
  have HFl := hide (fun (t : Int) W (k : Keeps w W) (h : s.ds.length ≤ 1000000) => Flat_any v s x t W (hv.keeps k) hf h)
  have HFi := hide (flat_fine hf x y)
  have hsm : smallS s = true → s.ds.length ≤ 60 := fun h => by
    simp only [smallS, Bool.and_eq_true, decide_eq_true_eq] at h
    exact h.1.2
  obtain ⟨vd, rfl, hd⟩ := hv
  obtain ⟨a, cap, hvd⟩ := hd.len
  subst hvd
  have B := hide ((Blk.made w #[.string s.key.n, .int .i64 s.key.t, .int .i64 s.key.c, .slice a s.ds.length cap, .int .i64 s.ttl] 35).alloc (.cells #[.int .i64 x, .int .i64 y] 36))
  have A2 := Blk.made (w.alloc (.cells #[.string s.key.n, .int .i64 s.key.t, .int .i64 s.key.c, .slice a s.ds.length cap, .int .i64 s.ttl] 35)) #[.int .i64 x, .int .i64 y] 36
  rw [size_allocG] at A2
  replace A2 := hide A2
  have K := hide (((Keeps.refl w).alloc (.cells #[.string s.key.n, .int .i64 s.key.t, .int .i64 s.key.c, .slice a s.ds.length cap, .int .i64 s.ttl] 35)).alloc (.cells #[.int .i64 x, .int .i64 y] 36))
  go_enter Try.func5, Try.ntmps5
  go_upto_region 1 with fail
  generalize (w.alloc (.cells #[.string s.key.n, .int .i64 s.key.t, .int .i64 s.key.c, .slice a s.ds.length cap, .int .i64 s.ttl] 35)).alloc (.cells #[.int .i64 x, .int .i64 y] 36) = W at *
  generalize w.heap.size + 1 = H at *
  generalize hGw : w.heap.size = G at *
  obtain ⟨b0, b1, b2, b3, b4, _⟩ := B.out.five_cells
  go_wp2_with fail
  refine (HS.out _ K.out).mono ?_
  rintro e w1 ⟨rfl, k1⟩
  replace B := hide (B.out.keeps k1)
  replace A2 := hide (A2.out.keeps k1)
  replace K := hide (K.out.trans k1)
  clear k1 HS b0 b1 b2 b3 b4
  cases hss : smallS s
  · go_wp2_with fail
    refine (live10_any _).mono ?_
    rintro e wz ⟨rfl, kz⟩
    go_wp2
    go_ret
    exact ⟨rfl, K.out.trans kz⟩
  have h60 := hsm hss
  clear hsm hss
  obtain ⟨b0, b1, b2, b3, b4, _⟩ := B.out.five_cells
  go_wp2_with fail
  refine (HC.out _ K.out).mono ?_
  rintro e w2 ⟨rfl, k1⟩
  replace B := hide (B.out.keeps k1)
  replace A2 := hide (A2.out.keeps k1)
  replace K := hide (K.out.trans k1)
  clear k1 HC b0 b1 b2 b3 b4
  cases hok : stOk s
  · go_wp2_with fail
    refine (live10_any _).mono ?_
    rintro e wz ⟨rfl, kz⟩
    go_wp2
    go_ret
    exact ⟨rfl, K.out.trans kz⟩
  obtain ⟨b0, b1, b2, b3, b4, _⟩ := B.out.five_cells
  have a0 := A2.out.cell 0
  have a1 := A2.out.cell 1
  simp only [List.getElem?_toArray, List.getElem?_cons_zero, List.getElem?_cons_succ] at a0 a1
  go_wp2_with fail
  refine (HFl.out y _ K.out (by omega)).mono ?_
  intro e w3 hE
  obtain ⟨vf, rfl, rf, k1⟩ := hE
  replace B := hide (B.out.keeps k1)
  replace A2 := hide (A2.out.keeps k1)
  replace K := hide (K.out.trans k1)
  clear k1 b0 b1 b2 b3 b4 a0 a1
  have a0 := A2.out.cell 0
  have a1 := A2.out.cell 1
  simp only [List.getElem?_toArray, List.getElem?_cons_zero, List.getElem?_cons_succ] at a0 a1
  by_cases x0 : x < 0
  · rw [flat_no (.inl (by omega))] at rf
    obtain ⟨ad, ca, rfl, _, _⟩ := rf
    go_wp2_with fail
    refine (live10_any _).mono ?_
    rintro e wz ⟨rfl, kz⟩
    go_wp2
    go_ret
    exact ⟨rfl, K.out.trans kz⟩
  by_cases x1 : 2147483648 ≤ x
  · rw [flat_no (.inl (by omega))] at rf
    obtain ⟨ad, ca, rfl, _, _⟩ := rf
    go_wp2_with fail
    refine (live10_any _).mono ?_
    rintro e wz ⟨rfl, kz⟩
    go_wp2
    go_ret
    exact ⟨rfl, K.out.trans kz⟩
  by_cases y0 : y < 0
  · rw [flat_no (.inr (by omega))] at rf
    obtain ⟨ad, ca, rfl, _, _⟩ := rf
    go_wp2_with fail
    refine (live10_any _).mono ?_
    rintro e wz ⟨rfl, kz⟩
    go_wp2
    go_ret
    exact ⟨rfl, K.out.trans kz⟩
  obtain ⟨yn, rfl⟩ : ∃ yn : Nat, y = yn := ⟨y.toNat, by omega⟩
  have hp : 0 < s.ds.length := List.length_pos_iff.2 (stOk_parts.1 hok).1
  have hx2 : 0 ≤ x ∧ x ≤ 2147483647 := by omega
  have hfl := flat_len_yes hok hx2 (show (0 : Int) ≤ (yn : Int) by omega)
  have HFr := hide (From_any vf (flatM s x yn) w3 rf (by omega) HFi.out)
  obtain ⟨af, cf, hvf⟩ := rf.len
  rw [List.length_map, hfl] at hvf
  subst hvf
  have hz : ¬ (s.ds.length : Int) = 0 := by omega
  have hz2 : ((s.ds.length : Int) == 0) = false := beq_eq_false_iff_ne.2 hz
  have q5 : ¬ s.ds = [] := List.length_pos_iff.1 hp
  obtain ⟨b0, b1, b2, b3, b4, _⟩ := B.out.five_cells
  by_cases ho : s.key.t = 41
  · have h41 : (s.key.t == 41) = true := by rw [ho]; rfl
    rw [from_opt ho] at HFr
    clear ho
    go_wp2_with fail
    refine (HFr.out).mono ?_
    intro e w4 hE
    obtain ⟨vs, rfl, rs, k1⟩ := hE
    replace K := hide (K.out.trans k1)
    obtain ⟨ad, ca, rfl⟩ := no_set rs
    go_wp2_with fail
    refine (live10_any _).mono ?_
    rintro e wz ⟨rfl, kz⟩
    go_wp2
    go_ret
    exact ⟨rfl, K.out.trans kz⟩
  have h41 : (s.key.t == 41) = false := beq_eq_false_iff_ne.2 ho
  rw [from_flat hok hx2 (by omega) ho] at HFr
  go_wp2_with fail
  refine (HFr.out).mono ?_
  intro e w4 hE
  obtain ⟨vs, rfl, rs, k1⟩ := hE
  replace B := hide (B.out.keeps k1)
  replace A2 := hide (A2.out.keeps k1)
  replace K := hide (K.out.trans k1)
  replace rf := hide (rf.keeps k1)
  clear k1 HFr b0 b1 b2 b3 b4 a0 a1 HFi h41 ho
  obtain ⟨g, o, cs, vx, rfl, rx, O1⟩ := one_set rs
  clear rs
  have hL : (turned s.ds (yn : Int).toNat).length = s.ds.length := turned_length _ _
  have hLm := turned_mem s.ds (yn : Int).toNat
  have hLe : flatM s x ((yn % s.ds.length : Nat) : Int) = flatM s x yn := by
    rw [flat_yes hok hx2 (by omega), flat_yes hok hx2 (by omega), Int.toNat_natCast, Int.toNat_natCast, turned_mod]
  obtain ⟨ax, cx, hvx⟩ := rx.len
  simp only at rx O1 hvx
  generalize turned s.ds (yn : Int).toNat = L at *
  rw [hL] at hvx
  subst hvx
  obtain ⟨o0, o1, o2, o3, o4, og⟩ := O1
  simp only at o0 o1 o2 o3 o4
  have O1 := hide (show OneAt w4 g o ⟨s.key, L, x⟩ (.slice ax s.ds.length cx) from ⟨o0, o1, o2, o3, o4, og⟩)
  obtain ⟨b0, b1, b2, b3, b4, _⟩ := B.out.five_cells
  have a0 := A2.out.cell 0
  have a1 := A2.out.cell 1
  simp only [List.getElem?_toArray, List.getElem?_cons_zero, List.getElem?_cons_succ] at a0 a1
  have nq := neq_qn s.key s.key
  rw [decide_eq_true rfl] at nq
  go_wp2_with fail
  go_region
  go_wp2_with fail
  clear b0 b1 b2 b3 b4 a0 a1 o0 o1 o2 o3 o4 nq
  obtain ⟨b, off, cap', he, hb0, hcell0, _⟩ := hd.parts (by omega)
  simp only [Value.slice.injEq, true_and] at he
  obtain ⟨rfl, rfl⟩ := he
  obtain ⟨f, hff⟩ : ∃ f, yn % s.ds.length = f := ⟨_, rfl⟩
  rw [hff] at hLe
  have hfI : (yn : Int) % (s.ds.length : Int) = (f : Int) := by rw [← hff]; rfl
  have hrem : (yn : Int).tmod (s.ds.length : Int) = (f : Int) := by rw [Int.tmod_eq_emod_of_nonneg (by omega)]; exact hfI
  have HG := hide (fun W k => HFl.out (f : Int) W k (by omega))
  rw [hLe] at HG
  clear hLe HFl hd
  generalize flatM s x yn = F at *
  have RX := hide rx
  clear rx
  go_loopw [7] (fun i wr => ∃ j : Nat, j ≤ s.ds.length ∧ i = .int .i64 j ∧ Keeps w4 wr) (fun i _ => s.ds.length - (intOf i).toNat)
  case atStart => exact ⟨0, by omega, rfl, (Keeps.refl _).drew⟩
  case round =>
    obtain ⟨j, hj, rfl, K4⟩ := hrel
    have KW := hide (K.out.trans K4)
    have BB := hide (B.out.keeps K4)
    by_cases hlt : j < s.ds.length
    · have hc := (Below.cell KW.out (p := ⟨b, off + j, none⟩) hb0).trans (hcell0 j hlt)
      have hmem : decide (bl ⟨(s.ds[j]).toArray⟩ ∈ L) = true := by rw [bl_of]; exact decide_eq_true ((hLm _).2 (List.getElem_mem hlt))
      have HIN := fun W (k : Keeps w4 W) => In_any (.slice ax s.ds.length cx) L ⟨(s.ds[j]).toArray⟩ W (RX.out.keeps k) (by unfold maxLen; omega)
      rw [hmem] at HIN
      replace HIN := hide HIN
      have i2 : (j : Int) < (s.ds.length : Int) := by omega
      have i0 : (0 : Int) ≤ (j : Int) := by omega
      clear hcell0 hmem
      generalize hoo : off + j = o2 at hc
      generalize s.ds[j] = d at *
      unfold sv at hc
      obtain ⟨_, _, _, o3, _, og2⟩ := O1.out.keeps K4
      have T0 : wr.drew.cell? ⟨G, 3, none⟩ = some (.slice (some ⟨b, off, none⟩) s.ds.length cap) ∧ wr.drew.cell? ⟨g, o + 3, none⟩ = some (.slice ax s.ds.length cx) ∧ wr.drew.cell? ⟨b, o2, none⟩ = some (.string ⟨d.toArray⟩) := ⟨BB.out.cell 3, o3, hc⟩
      have hbb : b < wr.heap.size := Nat.lt_of_lt_of_le hb0 KW.out.size
      have hGG := BB.out.lt
      have HT := hide (fun w' (k : Keeps wr.drew w') => (⟨(Below.cell (p := ⟨G, 3, none⟩) k hGG).trans T0.1, (Below.cell (p := ⟨g, o + 3, none⟩) k og2).trans T0.2.1, (Below.cell (p := ⟨b, o2, none⟩) k hbb).trans T0.2.2⟩ : w'.cell? ⟨G, 3, none⟩ = some (.slice (some ⟨b, off, none⟩) s.ds.length cap) ∧ w'.cell? ⟨g, o + 3, none⟩ = some (.slice ax s.ds.length cx) ∧ w'.cell? ⟨b, o2, none⟩ = some (.string ⟨d.toArray⟩)))
      have T := T0
      have KK : Keeps wr.drew wr.drew := Keeps.refl _
      have g3 := BB.out.cell 3
      simp only [List.getElem?_toArray, List.getElem?_cons_zero, List.getElem?_cons_succ] at g3
      clear o3 hc T0
      go_wp2_with fail
      clear g3
      go_region_held3 (fun w' => w'.cell? ⟨G, 3, none⟩ = some (.slice (some ⟨b, off, none⟩) s.ds.length cap) ∧ w'.cell? ⟨g, o + 3, none⟩ = some (.slice ax s.ds.length cx) ∧ w'.cell? ⟨b, o2, none⟩ = some (.string ⟨d.toArray⟩)) (exact T) ((go_at_call 24; refine (HIN.out _ (Keeps.trans K4.drew KK)).mono ?_; rintro e w5 ⟨rfl, k5⟩; replace KK := Keeps.trans KK k5; replace T := HT.out _ KK; clear k5))
      go_wp2
      go_roundw
      case rel => exact ⟨j + 1, by omega, by go_num, K4.drew.trans KK⟩
      case measure => simp [intOf]; omega
    · obtain rfl : j = s.ds.length := by omega
      have T0 : wr.cell? ⟨G, 0, none⟩ = some (.string s.key.n) ∧ wr.cell? ⟨G, 1, none⟩ = some (.int .i64 s.key.t) ∧ wr.cell? ⟨G, 2, none⟩ = some (.int .i64 s.key.c) ∧ wr.cell? ⟨G, 3, none⟩ = some (.slice (some ⟨b, off, none⟩) s.ds.length cap) ∧ wr.cell? ⟨G, 4, none⟩ = some (.int .i64 s.ttl) ∧ wr.cell? ⟨H, 0, none⟩ = some (.int .i64 x) ∧ wr.cell? ⟨H, 1, none⟩ = some (.int .i64 yn) := ⟨BB.out.cell 0, BB.out.cell 1, BB.out.cell 2, BB.out.cell 3, BB.out.cell 4, (A2.out.keeps K4).cell 0, (A2.out.keeps K4).cell 1⟩
      have hGG := BB.out.lt
      have hHH := (A2.out.keeps K4).lt
      have HT := hide (fun w' (k : Keeps wr.drew w') => (⟨(Below.cell (p := ⟨G, 0, none⟩) k hGG).trans T0.1, (Below.cell (p := ⟨G, 1, none⟩) k hGG).trans T0.2.1, (Below.cell (p := ⟨G, 2, none⟩) k hGG).trans T0.2.2.1, (Below.cell (p := ⟨G, 3, none⟩) k hGG).trans T0.2.2.2.1, (Below.cell (p := ⟨G, 4, none⟩) k hGG).trans T0.2.2.2.2.1, (Below.cell (p := ⟨H, 0, none⟩) k hHH).trans T0.2.2.2.2.2.1, (Below.cell (p := ⟨H, 1, none⟩) k hHH).trans T0.2.2.2.2.2.2⟩ : w'.cell? ⟨G, 0, none⟩ = some (.string s.key.n) ∧ w'.cell? ⟨G, 1, none⟩ = some (.int .i64 s.key.t) ∧ w'.cell? ⟨G, 2, none⟩ = some (.int .i64 s.key.c) ∧ w'.cell? ⟨G, 3, none⟩ = some (.slice (some ⟨b, off, none⟩) s.ds.length cap) ∧ w'.cell? ⟨G, 4, none⟩ = some (.int .i64 s.ttl) ∧ w'.cell? ⟨H, 0, none⟩ = some (.int .i64 x) ∧ w'.cell? ⟨H, 1, none⟩ = some (.int .i64 yn)))
      have T : wr.drew.cell? ⟨G, 0, none⟩ = some (.string s.key.n) ∧ wr.drew.cell? ⟨G, 1, none⟩ = some (.int .i64 s.key.t) ∧ wr.drew.cell? ⟨G, 2, none⟩ = some (.int .i64 s.key.c) ∧ wr.drew.cell? ⟨G, 3, none⟩ = some (.slice (some ⟨b, off, none⟩) s.ds.length cap) ∧ wr.drew.cell? ⟨G, 4, none⟩ = some (.int .i64 s.ttl) ∧ wr.drew.cell? ⟨H, 0, none⟩ = some (.int .i64 x) ∧ wr.drew.cell? ⟨H, 1, none⟩ = some (.int .i64 yn) := T0
      have KK : Keeps wr.drew wr.drew := Keeps.refl _
      have g3 := T0.2.2.2.1
      clear T0 hcell0
      go_wp2_with fail
      clear g3
      go_region_held3 (fun w' => w'.cell? ⟨G, 0, none⟩ = some (.string s.key.n) ∧ w'.cell? ⟨G, 1, none⟩ = some (.int .i64 s.key.t) ∧ w'.cell? ⟨G, 2, none⟩ = some (.int .i64 s.key.c) ∧ w'.cell? ⟨G, 3, none⟩ = some (.slice (some ⟨b, off, none⟩) s.ds.length cap) ∧ w'.cell? ⟨G, 4, none⟩ = some (.int .i64 s.ttl) ∧ w'.cell? ⟨H, 0, none⟩ = some (.int .i64 x) ∧ w'.cell? ⟨H, 1, none⟩ = some (.int .i64 yn)) (exact T) ((go_at_call 20; refine (HG.out _ ((KW.out.drew).trans KK)).mono ?_; intro e w5 hE; obtain ⟨vg, rfl, rg, k5⟩ := hE; replace KK := Keeps.trans KK k5; replace T := HT.out _ KK; clear k5))
      have hlF : F.length ≤ maxLen := by rw [hfl]; unfold maxLen; omega
      have HSA := hide (refsame6_any _ _ F F _ (rf.out.keeps (K4.drew.trans KK)) rg hlF hlF)
      rw [decide_eq_true rfl] at HSA
      clear T HT HG
      go_wp2_with fail
      refine (HSA.out).mono ?_
      rintro e w6 ⟨rfl, k6⟩
      go_wp2_with fail
      refine (live10_any _).mono ?_
      rintro e wz ⟨rfl, kz⟩
      go_wp2
      go_ret
      exact ⟨rfl, ((KW.out.drew.trans KK).trans k6).trans kz⟩
end Go.Proofs.Ytdfhojhljfcolaa
