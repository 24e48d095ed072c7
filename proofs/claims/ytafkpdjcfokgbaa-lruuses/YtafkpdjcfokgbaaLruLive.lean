/- The law's fixed answers of layer 13 are right. No condition. -/
import Derived.Test.YtafkpdjcfokgbaaLruEI
import Derived.Test.YtafkpdjcfokgbaaLruET
namespace Go.Proofs.Ytafkpdjcfokgbaa
open Go.RowKit

theorem litI (w : World) (l : List Int) (hl : l.length ≤ maxLen) : ReadRow (w.alloc (.cells (l.map i1).toArray 3)) (.slice (some ⟨w.heap.size, 0, none⟩) l.length l.length) 1 (l.map iv) := by
  have h : OwnsR (w.alloc (.cells (l.map i1).toArray 3)) w.heap.size 3 1 (.slice (some ⟨w.heap.size, 0, none⟩) l.length l.length) (l.map iv) := by
    refine ⟨?_, fun r hr => by obtain ⟨x, _, rfl⟩ := List.mem_map.1 hr; rfl⟩
    have := World.ownsRow_lit (e := 3) (size := 1) w (l.map i1).toArray l.length (Nat.le_refl w.heap.size) hl (by simp)
    rw [List.length_map]
    have e : (l.map iv).flatten = l.map i1 := by
      induction l with
      | nil => rfl
      | cons x l ih => simp [iv] at ih ⊢; exact ih (by simp at hl; omega) (World.ownsRow_lit (e := 3) (size := 1) w (l.map i1).toArray l.length (Nat.le_refl w.heap.size) (by simp at hl; omega) (by simp))
    rw [e]
    simpa using this
  exact h.read
theorem litT (w : World) (l : List (List UInt8)) (hl : l.length ≤ maxLen) : ReadRow (w.alloc (.cells (l.map sv).toArray 9)) (.slice (some ⟨w.heap.size, 0, none⟩) l.length l.length) 1 (l.map tv) := by
  have h : OwnsR (w.alloc (.cells (l.map sv).toArray 9)) w.heap.size 9 1 (.slice (some ⟨w.heap.size, 0, none⟩) l.length l.length) (l.map tv) := by
    refine ⟨?_, fun r hr => by obtain ⟨x, _, rfl⟩ := List.mem_map.1 hr; rfl⟩
    have := World.ownsRow_lit (e := 9) (size := 1) w (l.map sv).toArray l.length (Nat.le_refl w.heap.size) hl (by simp)
    rw [List.length_map]
    have e : (l.map tv).flatten = l.map sv := by
      clear this hl
      induction l with
      | nil => rfl
      | cons x l ih => simp only [List.map_cons, List.flatten_cons, ih]; rfl
    rw [e]
    simpa using this
  exact h.read

set_option maxHeartbeats 16000000 in
set_option maxRecDepth 100000 in
theorem live13_any (w : World) : Calls Try.prog 7 #[] w fun e w' => e = .returned (.bool true) ∧ Keeps w w' := by
  have K := hide (Keeps.refl w)
  have HOT := hide (fun (W : World) (v : Value) (h : ReadRow W v 1 ([[120], [121]].map tv)) => (show Calls Try.prog 25 #[v] W fun e w' => e = .returned (.tuple #[.string ⟨#[120]⟩, .bool true]) ∧ Keeps W w' from Oldest_t v [[120], [121]] W h))
  have HOI := hide (fun (W : World) (v : Value) (h : ReadRow W v 1 (([] : List Int).map iv)) => (show Calls Try.prog 10 #[v] W fun e w' => e = .returned (.tuple #[.int .i64 0, .bool false]) ∧ Keeps W w' from Oldest_i v [] W h))
  go_enter Try.func7, Try.ntmps7
  go_wp2_with fail
  refine (Cut_i _ [1, 2, 3] 2 _ (litI _ [1, 2, 3] (by decide)) (by decide) (by decide)).mono ?_
  intro e w1 hE
  obtain ⟨va, vb, rfl, oa, ob, k1⟩ := hE
  have RA := hide (show ReadRow w1 va 1 ([2, 3].map iv) from oa.read)
  have RB := hide (show ReadRow w1 vb 1 ([1].map iv) from ob.read)
  replace K := hide ((K.out.alloc _).trans k1)
  clear oa ob k1
  go_wp2_with fail
  refine (HOT.out _ _ (litT _ [[120], [121]] (by decide))).mono ?_
  rintro e w2 ⟨rfl, k1⟩
  replace RA := hide ((RA.out.keeps ((Keeps.refl _).alloc _)).keeps k1)
  replace RB := hide ((RB.out.keeps ((Keeps.refl _).alloc _)).keeps k1)
  replace K := hide ((K.out.alloc _).trans k1)
  clear k1
  go_wp2_with fail
  refine (HOI.out _ _ (litI _ [] (by decide))).mono ?_
  rintro e w3 ⟨rfl, k1⟩
  replace RA := hide ((RA.out.keeps ((Keeps.refl _).alloc _)).keeps k1)
  replace RB := hide ((RB.out.keeps ((Keeps.refl _).alloc _)).keeps k1)
  replace K := hide ((K.out.alloc _).trans k1)
  clear k1
  go_wp2_with fail
  refine (Touch_i _ [1, 2, 3] 1 _ (litI _ [1, 2, 3] (by decide)) (by decide)).mono ?_
  intro e w4 hE
  obtain ⟨v1, rfl, o1, k1⟩ := hE
  replace RA := hide ((RA.out.keeps ((Keeps.refl _).alloc _)).keeps k1)
  replace RB := hide ((RB.out.keeps ((Keeps.refl _).alloc _)).keeps k1)
  replace K := hide ((K.out.alloc _).trans k1)
  clear k1
  have R1 := hide (show ReadRow w4 v1 1 ([2, 3, 1].map iv) from o1.read)
  clear o1
  go_wp2_with fail
  refine (refSame13_any _ _ [2, 3, 1] [2, 3, 1] _ (R1.out.keeps ((Keeps.refl _).alloc _)) (litI _ [2, 3, 1] (by decide)) (by decide)).mono ?_
  rintro e w5 ⟨rfl, k1⟩
  rw [decide_eq_true rfl]
  replace RA := hide ((RA.out.keeps ((Keeps.refl _).alloc _)).keeps k1)
  replace RB := hide ((RB.out.keeps ((Keeps.refl _).alloc _)).keeps k1)
  replace K := hide ((K.out.alloc _).trans k1)
  clear k1
  clear R1
  go_wp2_with fail
  refine (Touch_i _ ([] : List Int) 4 _ (litI _ ([] : List Int) (by decide)) (by decide)).mono ?_
  intro e w6 hE
  obtain ⟨v1, rfl, o1, k1⟩ := hE
  replace RA := hide ((RA.out.keeps ((Keeps.refl _).alloc _)).keeps k1)
  replace RB := hide ((RB.out.keeps ((Keeps.refl _).alloc _)).keeps k1)
  replace K := hide ((K.out.alloc _).trans k1)
  clear k1
  have R1 := hide (show ReadRow w6 v1 1 ([4].map iv) from o1.read)
  clear o1
  go_wp2_with fail
  refine (refSame13_any _ _ [4] [4] _ (R1.out.keeps ((Keeps.refl _).alloc _)) (litI _ [4] (by decide)) (by decide)).mono ?_
  rintro e w7 ⟨rfl, k1⟩
  rw [decide_eq_true rfl]
  replace RA := hide ((RA.out.keeps ((Keeps.refl _).alloc _)).keeps k1)
  replace RB := hide ((RB.out.keeps ((Keeps.refl _).alloc _)).keeps k1)
  replace K := hide ((K.out.alloc _).trans k1)
  clear k1
  clear R1
  go_wp2_with fail
  refine (Drop_i _ [1, 2, 1] 1 _ (litI _ [1, 2, 1] (by decide)) (by decide)).mono ?_
  intro e w8 hE
  obtain ⟨v1, rfl, o1, k1⟩ := hE
  replace RA := hide ((RA.out.keeps ((Keeps.refl _).alloc _)).keeps k1)
  replace RB := hide ((RB.out.keeps ((Keeps.refl _).alloc _)).keeps k1)
  replace K := hide ((K.out.alloc _).trans k1)
  clear k1
  have R1 := hide (show ReadRow w8 v1 1 ([2].map iv) from o1.read)
  clear o1
  go_wp2_with fail
  refine (refSame13_any _ _ [2] [2] _ (R1.out.keeps ((Keeps.refl _).alloc _)) (litI _ [2] (by decide)) (by decide)).mono ?_
  rintro e w9 ⟨rfl, k1⟩
  rw [decide_eq_true rfl]
  replace RA := hide ((RA.out.keeps ((Keeps.refl _).alloc _)).keeps k1)
  replace RB := hide ((RB.out.keeps ((Keeps.refl _).alloc _)).keeps k1)
  replace K := hide ((K.out.alloc _).trans k1)
  clear k1
  clear R1
  go_wp2_with fail
  refine (refSame13_any _ _ [2, 3] [2, 3] _ (RA.out.keeps ((Keeps.refl _).alloc _)) (litI _ [2, 3] (by decide)) (by decide)).mono ?_
  rintro e w10 ⟨rfl, k1⟩
  rw [decide_eq_true rfl]
  replace RA := hide ((RA.out.keeps ((Keeps.refl _).alloc _)).keeps k1)
  replace RB := hide ((RB.out.keeps ((Keeps.refl _).alloc _)).keeps k1)
  replace K := hide ((K.out.alloc _).trans k1)
  clear k1
  go_wp2_with fail
  refine (refSame13_any _ _ [1] [1] _ (RB.out.keeps ((Keeps.refl _).alloc _)) (litI _ [1] (by decide)) (by decide)).mono ?_
  rintro e w11 ⟨rfl, k1⟩
  rw [decide_eq_true rfl]
  replace RA := hide ((RA.out.keeps ((Keeps.refl _).alloc _)).keeps k1)
  replace RB := hide ((RB.out.keeps ((Keeps.refl _).alloc _)).keeps k1)
  replace K := hide ((K.out.alloc _).trans k1)
  clear k1
  clear RA RB
  go_wp2_with fail
  refine (Check_i _ [1, 2] _ (litI _ [1, 2] (by decide)) (by decide) (by intro x hx; unfold kin_i; simp at hx; omega)).mono ?_
  rintro e w12 ⟨rfl, k1⟩
  rw [show decide (List.Nodup ([1, 2] : List Int)) = true by decide]
  replace K := hide ((K.out.alloc _).trans k1)
  clear k1
  go_wp2_with fail
  refine (Check_i _ [1, 2, 1] _ (litI _ [1, 2, 1] (by decide)) (by decide) (by intro x hx; unfold kin_i; simp at hx; omega)).mono ?_
  rintro e w13 ⟨rfl, k1⟩
  rw [show decide (List.Nodup ([1, 2, 1] : List Int)) = false by decide]
  replace K := hide ((K.out.alloc _).trans k1)
  clear k1
  go_wp2
  go_ret
  exact ⟨rfl, K.out⟩
end Go.Proofs.Ytafkpdjcfokgbaa
