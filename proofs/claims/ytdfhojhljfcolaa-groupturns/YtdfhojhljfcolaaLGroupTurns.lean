/- GroupTurns answers true, for every input: the walk. -/
import Derived.Test.YtdfhojhljfcolaaGrpLive
import Derived.Test.YtdfhojhljfcolaaGrp9
import Derived.Test.YtdfhojhljfcolaaGrp4
import Derived.Test.YtdfhojhljfcolaaShapesG
import Derived.Test.YtdfhojhljfcolaaMsgW7
import Derived.Deep.RegionHeld3
namespace Go.Proofs.Ytdfhojhljfcolaa
open Go.RowKit

theorem turned_round {α : Type} (l : List α) (t : Nat) : turned l (t + l.length) = turned l t := by
  unfold turned
  rw [Nat.add_mod_right]
theorem turned_next {α : Type} (l : List α) (t i : Nat) (hi : i < l.length) : (turned l (t + 1))[i]? = (turned l t)[(i + 1) % l.length]? := by
  have hp : 0 < l.length := by omega
  rw [turned_get l (t + 1) i hi, turned_get l t ((i + 1) % l.length) (Nat.mod_lt _ hp)]
  congr 1
  rw [Nat.mod_add_mod, Nat.add_mod_mod, Nat.mod_add_mod]
  congr 1
  omega
theorem flat_turns {s : St} (h : stOk s = true) (t : Nat) : flatM s 5 t = (turned s.ds t).map (oneM s.key 5) := by
  unfold flatM
  rw [h, decide_eq_true (by omega), decide_eq_true (by omega)]
  simp

theorem turns_ac (s : St) (t : Nat) : ∃ A C, (turned s.ds t).map (oneM s.key 5) = A ∧ (turned s.ds (t + 1)).map (oneM s.key 5) = C ∧ A.length = s.ds.length ∧ C.length = s.ds.length ∧ ∀ i k (hi : i < C.length) (hk : k < A.length), (i + 1) % s.ds.length = k → C[i] = A[k] := by
  refine ⟨_, _, rfl, rfl, by rw [List.length_map, turned_length], by rw [List.length_map, turned_length], ?_⟩
  intro i k hi hk he
  have hi' : i < s.ds.length := by rw [List.length_map, turned_length] at hi; exact hi
  have h := turned_next s.ds t i hi'
  rw [he] at h
  rw [List.getElem_map, List.getElem_map]
  congr 1
  rw [List.length_map] at hi hk
  rw [List.getElem?_eq_getElem hi, List.getElem?_eq_getElem hk] at h
  exact Option.some.inj h

set_option maxHeartbeats 4000000 in
set_option maxRecDepth 100000 in
theorem GroupTurns_walk (v : Value) (s : St) (turn : Int) (w : World) (hv : StAt w v s) (hf : StFine s) (_ : StIn s) (_ : -9223372036854775808 ≤ turn ∧ turn ≤ 9223372036854775807) :
    Calls Try.prog 7 #[v, .int .i64 turn] w fun e w' => e = .returned (.bool true) ∧ Keeps w w' := by
  have HS := hide (fun W (k : Keeps w W) => SmallS_any v s W (hv.keeps k) hf)
  have HC := hide (fun W (k : Keeps w W) => GCheck_any v s W (hv.keeps k) hf)
  have HFl := hide (fun (t : Int) W (k : Keeps w W) (h : s.ds.length ≤ 1000000) => Flat_any v s 5 t W (hv.keeps k) hf h)
  have hsm : smallS s = true → s.ds.length ≤ 60 := fun h => by
    simp only [smallS, Bool.and_eq_true, decide_eq_true_eq] at h
    exact h.1.2
  obtain ⟨vd, rfl, hd⟩ := hv
  obtain ⟨a, cap, hvd⟩ := hd.len
  subst hvd
  have B := hide (Blk.made w #[.string s.key.n, .int .i64 s.key.t, .int .i64 s.key.c, .slice a s.ds.length cap, .int .i64 s.ttl] 35)
  have K := hide ((Keeps.refl w).alloc (.cells #[.string s.key.n, .int .i64 s.key.t, .int .i64 s.key.c, .slice a s.ds.length cap, .int .i64 s.ttl] 35))
  clear hd
  go_enter Try.func7, Try.ntmps7
  go_upto_region 1 with fail
  generalize w.alloc (.cells #[.string s.key.n, .int .i64 s.key.t, .int .i64 s.key.c, .slice a s.ds.length cap, .int .i64 s.ttl] 35) = W at *
  generalize hGw : w.heap.size = G at *
  obtain ⟨b0, b1, b2, b3, b4, _⟩ := B.out.five_cells
  go_wp2_with fail
  refine (HS.out _ K.out).mono ?_
  rintro e w1 ⟨rfl, k1⟩
  replace B := hide (B.out.keeps k1)
  replace K := hide (K.out.trans k1)
  clear k1 HS b0 b1 b2 b3 b4
  cases hss : smallS s
  · go_wp2_with fail
    refine (live10_any _).mono ?_
    rintro e wz ⟨rfl, kz⟩
    go_wp2
    go_ret
    exact ⟨rfl, K.out.trans kz⟩
  have h60 := hsm hss
  clear hsm
  obtain ⟨b0, b1, b2, b3, b4, _⟩ := B.out.five_cells
  go_wp2_with fail
  refine (HC.out _ K.out).mono ?_
  rintro e w2 ⟨rfl, k1⟩
  replace B := hide (B.out.keeps k1)
  replace K := hide (K.out.trans k1)
  clear k1 HC b0 b1 b2 b3 b4
  cases hok : stOk s
  · go_wp2_with fail
    refine (live10_any _).mono ?_
    rintro e wz ⟨rfl, kz⟩
    go_wp2
    go_ret
    exact ⟨rfl, K.out.trans kz⟩
  by_cases t0 : turn < 0
  · go_wp2_with fail
    refine (live10_any _).mono ?_
    rintro e wz ⟨rfl, kz⟩
    go_wp2
    go_ret
    exact ⟨rfl, K.out.trans kz⟩
  by_cases t1 : 1099511627776 < turn
  · go_wp2_with fail
    refine (live10_any _).mono ?_
    rintro e wz ⟨rfl, kz⟩
    go_wp2
    go_ret
    exact ⟨rfl, K.out.trans kz⟩
  obtain ⟨tn, rfl⟩ : ∃ tn : Nat, turn = tn := ⟨turn.toNat, by omega⟩
  have hp : 0 < s.ds.length := by
    simp only [stOk, Bool.and_eq_true, decide_eq_true_eq] at hok
    exact List.length_pos_iff.2 hok.1.1.1
  have F1 := hide (fun W (k : Keeps w W) => HFl.out (tn : Int) W k (by omega))
  have F2 := hide (fun W (k : Keeps w W) => HFl.out ((tn : Int) + (s.ds.length : Int)) W k (by omega))
  have F3 := hide (fun W (k : Keeps w W) => HFl.out ((tn : Int) + 1) W k (by omega))
  rw [flat_turns hok] at F1
  rw [show (tn : Int) + (s.ds.length : Int) = ((tn + s.ds.length : Nat) : Int) by simp, flat_turns hok, turned_round, show ((tn + s.ds.length : Nat) : Int) = (tn : Int) + (s.ds.length : Int) by simp] at F2
  rw [show (tn : Int) + 1 = ((tn + 1 : Nat) : Int) by simp, flat_turns hok, show ((tn + 1 : Nat) : Int) = (tn : Int) + 1 by simp] at F3
  have wr1 : IntKind.i64.wrap ((tn : Int) + (s.ds.length : Int)) = (tn : Int) + (s.ds.length : Int) := by rw [IntKind.wrap_i64]; omega
  have wr2 : IntKind.i64.wrap ((tn : Int) + 1) = (tn : Int) + 1 := by rw [IntKind.wrap_i64]; omega
  clear HFl
  obtain ⟨A, C, hA, hC, hAl, hCl, hAC⟩ := turns_ac s tn
  rw [hA] at F1 F2
  rw [hC] at F3
  clear hA hC hok hss
  obtain ⟨b0, b1, b2, b3, b4, _⟩ := B.out.five_cells
  go_wp2_with fail
  refine (F1.out _ K.out).mono ?_
  intro e w3 hE
  obtain ⟨va, rfl, ra, k1⟩ := hE
  replace B := hide (B.out.keeps k1)
  replace K := hide (K.out.trans k1)
  clear k1 F1 b0 b1 b2 b3 b4
  obtain ⟨b0, b1, b2, b3, b4, _⟩ := B.out.five_cells
  go_wp2_with fail
  refine (F2.out _ K.out).mono ?_
  intro e w4 hE
  obtain ⟨vb, rfl, rb, k1⟩ := hE
  replace B := hide (B.out.keeps k1)
  replace K := hide (K.out.trans k1)
  replace ra := ra.keeps k1
  clear k1 F2 b0 b1 b2 b3 b4
  obtain ⟨b0, b1, b2, b3, b4, _⟩ := B.out.five_cells
  go_wp2_with fail
  refine (F3.out _ K.out).mono ?_
  intro e w5 hE
  obtain ⟨vc, rfl, rc, k1⟩ := hE
  replace B := hide (B.out.keeps k1)
  replace K := hide (K.out.trans k1)
  replace ra := ra.keeps k1
  replace rb := rb.keeps k1
  clear k1 F3 b0 b1 b2 b3 b4 wr1 wr2
  obtain ⟨xa, ca, rfl⟩ := ra.len
  obtain ⟨xb, cb, rfl⟩ := rb.len
  obtain ⟨xc, cc, rfl⟩ := rc.len
  have HSA := hide (refsame6_any _ _ A A w5 ra rb (by unfold maxLen; omega) (by unfold maxLen; omega))
  obtain ⟨ba, oa, rfl, _, _⟩ := ra.parts (by rw [List.length_map]; omega)
  obtain ⟨bc, oc, rfl, _, _⟩ := rc.parts (by rw [List.length_map]; omega)
  rw [List.length_map, hAl] at HSA
  rw [List.length_map, hAl] at ra
  rw [List.length_map, hCl] at rc
  have RA := hide ra
  have RC := hide rc
  clear ra rb rc
  obtain ⟨b0, b1, b2, b3, b4, _⟩ := B.out.five_cells
  rw [List.length_map, List.length_map, hAl, hCl]
  go_wp2_with fail
  refine (HSA.out).mono ?_
  rintro e w6 ⟨rfl, k1⟩
  replace B := hide (B.out.keeps k1)
  replace K := hide (K.out.trans k1)
  replace RA := hide (RA.out.keeps k1)
  replace RC := hide (RC.out.keeps k1)
  clear k1 HSA b0 b1 b2 b3 b4
  obtain ⟨b0, b1, b2, b3, b4, _⟩ := B.out.five_cells
  go_wp2_with fail
  clear b0 b1 b2 b3 b4
  go_loopw [8] (fun i wr => ∃ j : Nat, j ≤ s.ds.length ∧ i = .int .i64 j ∧ Keeps w6 wr) (fun i _ => s.ds.length - (intOf i).toNat)
  case atStart => exact ⟨0, by omega, rfl, Keeps.refl _⟩
  case round =>
    obtain ⟨j, hj, rfl, K6⟩ := hrel
    by_cases hlt : j < s.ds.length
    · have ra2 := RA.out.keeps K6
      have rc2 := RC.out.keeps K6
      obtain ⟨k, hk⟩ : ∃ k, (j + 1) % s.ds.length = k := ⟨_, rfl⟩
      have hkl : k < s.ds.length := by rw [← hk]; exact Nat.mod_lt _ hp
      have i2 : (j : Int) < (s.ds.length : Int) := by omega
      have i3 : (k : Int) < (s.ds.length : Int) := by omega
      have i0 : (0 : Int) ≤ (j : Int) := by omega
      have i1 : (0 : Int) ≤ (k : Int) := by omega
      have q1 : IntKind.i64.wrap ((j : Int) + 1) = (j : Int) + 1 := by rw [IntKind.wrap_i64]; omega
      have q2 : (0 : Int) ≤ (j : Int) + 1 := by omega
      have q3 : ((j : Int) + 1) % (s.ds.length : Int) = (k : Int) := by rw [← hk]; simp
      have q4 : ((j : Int) + 1).tmod (s.ds.length : Int) = (k : Int) := by rw [Int.tmod_eq_emod_of_nonneg q2]; exact q3
      have q5 : ¬ s.ds = [] := List.length_pos_iff.1 hp
      have q6 : ¬ s.ds.length = 0 := by omega
      obtain ⟨c0, c1, c2, c3, c4⟩ := row5 rc2 (by omega : j < C.length)
      obtain ⟨e0, e1, e2, e3, e4⟩ := row5 ra2 (by omega : k < A.length)
      have hx := hAC j k (by omega) (by omega) hk
      generalize hoo : oc + j * 5 = o at *
      generalize hoo2 : oa + k * 5 = o2 at *
      generalize C[j] = x at *
      generalize A[k] = y at *
      subst hx
      have rn := neq_rec x x
      rw [decide_eq_true rfl] at rn
      clear ra2 rc2
      go_wp2_with fail
      go_region
      go_wp2
      go_roundw
      case rel => exact ⟨j + 1, by omega, by go_num, K6.drew⟩
      case measure => simp [intOf]; omega
    · obtain rfl : j = s.ds.length := by omega
      have KE := hide (K.out.trans K6)
      go_wp2_with fail
      refine (live10_any _).mono ?_
      rintro e wz ⟨rfl, kz⟩
      go_wp2
      go_ret
      exact ⟨rfl, KE.out.trans kz⟩
end Go.Proofs.Ytdfhojhljfcolaa
