/- LruCuts answers true, for every input: the walk. -/
import Derived.Test.YtafkpdjcfokgbaaLruLive
import Derived.Test.YtafkpdjcfokgbaaLruM
import Derived.Test.YtafkpdjcfokgbaaShapesI
import Derived.Test.YtafkpdjcfokgbaaShapesS
namespace Go.Proofs.Ytafkpdjcfokgbaa
open Go.RowKit

set_option maxHeartbeats 16000000 in
set_option maxRecDepth 100000 in
theorem LruCuts_walk (v : Value) (l : List Int) (x y : Int) (w : World) (hv : IsInts w v l) (hx : -9223372036854775808 ≤ x ∧ x ≤ 9223372036854775807) (hy : -9223372036854775808 ≤ y ∧ y ≤ 9223372036854775807) :
    Calls Try.prog 5 #[v, .int .i64 x, .int .i64 y] w fun e w' => e = .returned (.bool true) ∧ Keeps w w' := by
  obtain ⟨hv, hvi, _⟩ := hv
  obtain ⟨a, cap, h1⟩ := hv.len
  rw [List.length_map] at h1
  subst h1
  have RV := hide hv
  have K := hide (Keeps.refl w)
  clear hv
  by_cases g1 : (200 : Int) < (l.length : Int)
  · go_enter Try.func5, Try.ntmps5
    go_wp2_with fail
    refine (live13_any _).mono ?_
    rintro e w1 ⟨rfl, k1⟩
    replace K := hide (K.out.trans k1)
    clear k1
    go_wp2
    go_ret
    exact ⟨rfl, K.out⟩
  have hl : l.length ≤ 1000000 := by omega
  have HCC := hide (cut_cut l x y)
  go_enter Try.func5, Try.ntmps5
  go_wp2_with fail
  refine (Cut_i _ l x _ (RV.out.keeps K.out) hl hx).mono ?_
  intro e w1 hE
  obtain ⟨va, vb, rfl, oa, ob, k1⟩ := hE
  replace K := hide (K.out.trans k1)
  have RA := hide oa.read
  have RB := hide ob.read
  clear oa ob
  clear k1
  have hA := Lr.cutAt_le l.length x
  generalize Lr.cutAt l.length x = A at *
  have hlt : ((l.take A).map iv).length ≤ l.length := by rw [List.length_map, List.length_take]; omega
  have hld : ((l.drop A).map iv).length ≤ l.length := by rw [List.length_map, List.length_drop]; omega
  have hll : ((l.take A).map iv).length + ((l.drop A).map iv).length = l.length := by rw [List.length_map, List.length_map, List.length_take, List.length_drop]; omega
  replace hlt := hide hlt
  replace hld := hide hld
  replace hll := hide hll
  go_wp2_with (at_builtin; refine wpList_appRs 3 22 1 8 (.int .i64 0) _ Try.underlying22 Try.infoInt rfl (by decide) rfl _ _ rfl w1.heap.size _ [] rfl (OwnsR.nil _ _ _ _) vb rfl _ RB.out (fun r hr => by obtain ⟨z, _, rfl⟩ := List.mem_map.1 hr; rfl) (fun r hr u hu => by obtain ⟨z, _, rfl⟩ := List.mem_map.1 hr; exact iv_ones z u hu) ?c1 ?c2 ?c3 ?_)
  case c1 => have := hlt.out; simp only [List.length_nil]; unfold maxLen; omega
  case c2 => have := hlt.out; simp only [List.length_nil]; omega
  case c3 => exact Nat.le_refl _
  intro v2 w2 o2 k2 _
  replace o2 := hide (show OwnsR w2 w1.heap.size 3 1 v2 ((l.take A).map iv) by simpa using o2)
  replace k2 := hide (show Keeps w1 w2 from k2)
  go_wp2_with (at_builtin; refine wpList_appRs 3 22 1 8 (.int .i64 0) _ Try.underlying22 Try.infoInt rfl (by decide) rfl _ _ rfl w1.heap.size _ _ rfl o2.out va rfl _ (RA.out.keeps k2.out) (fun r hr => by obtain ⟨z, _, rfl⟩ := List.mem_map.1 hr; rfl) (fun r hr u hu => by obtain ⟨z, _, rfl⟩ := List.mem_map.1 hr; exact iv_ones z u hu) ?c1 ?c2 ?c3 ?_)
  case c1 => have := hll.out; unfold maxLen; omega
  case c2 => have := hll.out; omega
  case c3 => exact k2.out.size
  intro v3 w3 o3 k3 _
  replace k3 := hide (show Keeps w1 w3 from Below.trans k2.out k3)
  replace o3 := hide (show ReadRow w3 v3 1 (l.map iv) by have := o3.read; simpa using this)
  replace RA := hide (RA.out.keeps k3.out)
  replace K := hide (K.out.trans k3.out)
  clear k3 k2 o2 RB hlt hld hll
  go_wp2_with fail
  refine (refSame13_any v3 _ _ _ _ o3.out (RV.out.keeps K.out) (by omega)).mono ?_
  rintro e w4 ⟨rfl, k1⟩
  rw [decide_eq_true rfl]
  replace K := hide (K.out.trans k1)
  clear o3
  replace RA := hide (RA.out.keeps k1)
  clear k1
  go_wp2_with fail
  refine (Cut_i va (l.drop A) y _ RA.out (by rw [List.length_drop]; omega) hy).mono ?_
  intro e w5 hE
  obtain ⟨vc, vd, rfl, oc, _, k1⟩ := hE
  replace K := hide (K.out.trans k1)
  have RC := hide oc.read
  clear oc RA
  clear k1
  go_wp2_with fail
  refine (Cut_i _ l (min x y) _ (RV.out.keeps K.out) hl (by omega)).mono ?_
  intro e w6 hE
  obtain ⟨ve, vf, rfl, oe, _, k1⟩ := hE
  replace K := hide (K.out.trans k1)
  have RE := hide oe.read
  clear oe
  replace RC := hide (RC.out.keeps k1)
  rw [HCC.out] at RC
  clear k1
  go_wp2_with fail
  refine (refSame13_any vc ve _ _ _ RC.out RE.out (by rw [List.length_drop]; omega)).mono ?_
  rintro e w7 ⟨rfl, k1⟩
  rw [decide_eq_true rfl]
  replace K := hide (K.out.trans k1)
  clear RC RE
  clear k1
  go_wp2_with fail
  refine (live13_any _).mono ?_
  rintro e w8 ⟨rfl, k1⟩
  replace K := hide (K.out.trans k1)
  clear k1
  go_wp2
  go_ret
  exact ⟨rfl, K.out⟩
end Go.Proofs.Ytafkpdjcfokgbaa
