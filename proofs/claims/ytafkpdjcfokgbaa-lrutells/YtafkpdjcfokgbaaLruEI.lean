/- Lists of int: nobody twice, by the document; cut, by the document; when one was used last. No condition but lengths. (Made by tools/gen_lru.py.) -/
import Derived.Test.YtafkpdjcfokgbaaLruDI
namespace Go.Proofs.Ytafkpdjcfokgbaa
open Go.RowKit

theorem lr_mem_takei {α : Type} (l : List α) (m j : Nat) (hm : m < j) (hl : m < l.length) : l[m] ∈ l.take j := List.mem_iff_getElem.2 ⟨m, by rw [List.length_take]; omega, by simp⟩
def ROutReli (w : World) (l : List Int) (i : Value) (wr : World) : Prop :=
  ∃ j : Nat, j ≤ l.length ∧ i = .int .i64 j ∧ (l.take j).Nodup ∧ Keeps w wr
def RInReli (w : World) (l : List Int) (x : Int) (k : Value) (wr : World) : Prop :=
  ∃ m : Nat, m ≤ l.length ∧ k = .int .i64 m ∧ (∀ y ∈ l.take m, y ≠ x) ∧ Keeps w wr
set_option maxHeartbeats 4000000 in
set_option maxRecDepth 100000 in
theorem refCheck13_i (v : Value) (l : List Int) (w : World) (hv : ReadRow w v 1 (l.map iv)) (hl : l.length ≤ 1000000000) :
    Calls Try.prog 17 #[v] w fun e w' => e = .returned (.bool (decide l.Nodup)) ∧ Keeps w w' := by
  obtain ⟨a, cap, h1⟩ := hv.len
  rw [List.length_map] at h1
  subst h1
  have RD := hide hv
  clear hv
  go_enter Try.func17, Try.ntmps17
  go_wp2_with fail
  go_loopw [3, 4] (fun i _ wr => ROutReli w l i wr) (fun i _ _ => l.length - (intOf i).toNat)
  case atStart => exact ⟨0, by omega, rfl, by simp, Keeps.refl _⟩
  case round =>
    obtain ⟨j, hj, rfl, HND, K⟩ := hrel
    replace HND := hide HND
    replace K := hide K
    by_cases hlt : j < l.length
    · have i2 : (j : Int) < (l.length : Int) := by omega
      have i0 : (0 : Int) ≤ (j : Int) := by omega
      go_wp2_with fail
      go_loopw [4] (fun k wr => ∃ m : Nat, m ≤ j ∧ k = .int .i64 m ∧ (∀ y ∈ l.take m, y ≠ l[j]) ∧ Keeps w wr) (fun k _ => j - (intOf k).toNat)
      case atStart => exact ⟨0, by omega, rfl, by simp, K.out⟩
      case round =>
        obtain ⟨m, hm, rfl, HNE, K2⟩ := hrel
        replace HNE := hide HNE
        replace K2 := hide K2
        by_cases hmj : m < j
        · have i3 : (m : Int) < (j : Int) := by omega
          have i5 : (m : Int) < (l.length : Int) := by omega
          have i4 : (0 : Int) ≤ (m : Int) := by omega
          have hml : m < l.length := by omega
          have hv2 := RD.out.keeps K2.out
          obtain ⟨b, off, rfl, _, _⟩ := hv2.parts (by rw [List.length_map]; omega)
          have c0 := row1i hv2 hlt
          have c1 := row1i hv2 hml
          have HTK := hide (show l.take (m + 1) = l.take m ++ [l[m]] from List.take_succ_eq_append_getElem hml)
          have HDUP := hide (show l[m] = l[j] → ¬ l.Nodup from fun e => lr_nodup_not l j hlt (e ▸ lr_mem_takei l m j hmj hml))
          generalize hoo : off + j = o at *
          generalize hoo2 : off + m = o2 at *
          generalize l[j] = x at *
          generalize l[m] = y at *
          clear hv2
          simp only [i1] at c0 c1
          by_cases he : x = y
          · have hbe : (x == y) = true := by rw [he]; simp
            have hbe2 : (y == x) = true := by rw [he]; simp
            have HE : Hid (decide l.Nodup = false) := decide_eq_false (HDUP.out he.symm)
            replace he := hide he
            clear HDUP HNE HTK
            go_upto_region 7 with fail
            go_region
            go_wp2
            go_ret
            exact ⟨ret_bool HE.out.symm, K2.out.drew⟩
          · have hbe : (x == y) = false := by rw [beq_eq_false_iff_ne]; exact he
            have HNE2 : Hid (∀ z ∈ l.take (m + 1), z ≠ x) := fun z hz => by
              rw [HTK.out, List.mem_append, List.mem_singleton] at hz
              rcases hz with hz | hz
              · exact HNE.out z hz
              · subst hz; exact fun e => he e.symm
            replace he := hide he
            clear HDUP HNE HTK
            go_upto_region 7 with fail
            go_region
            go_wp2_with fail
            go_roundw
            case rel => exact ⟨m + 1, by omega, by go_num, HNE2.out, K2.out.drew⟩
            case measure => simp [intOf]; omega
        · obtain rfl : m = j := by omega
          have HND2 := hide (lr_nodup_upto l m hlt HND.out (fun h => HNE.out _ h rfl))
          go_wp2_with fail
          go_roundw
          case rel => exact ⟨m + 1, by omega, by go_num, HND2.out, K2.out⟩
          case measure => simp [intOf]; omega
    · obtain rfl : j = l.length := by omega
      rw [List.take_length] at HND
      have HE : Hid (decide l.Nodup = true) := decide_eq_true HND.out
      go_wp2
      go_ret
      exact ⟨ret_bool HE.out.symm, K.out⟩

/-- The last place of a number in a list. -/
def whenL (l : List Int) (n : Int) : Nat → Int
  | 0 => -1
  | j + 1 => if l[j]? = some n then (j : Int) else whenL l n j
set_option maxHeartbeats 4000000 in
set_option maxRecDepth 100000 in
theorem when_any (v : Value) (l : List Int) (n : Int) (w : World) (hv : ReadRow w v 1 (l.map iv)) (hl : l.length ≤ 1000000000) :
    Calls Try.prog 23 #[v, .int .i64 n] w fun e w' => e = .returned (.int .i64 (whenL l n l.length)) ∧ Keeps w w' := by
  obtain ⟨a, cap, h1⟩ := hv.len
  rw [List.length_map] at h1
  subst h1
  have RD := hide hv
  clear hv
  go_enter Try.func23, Try.ntmps23
  go_wp2_with fail
  go_loopw [5, 6] (fun at_ i wr => ∃ j : Nat, j ≤ l.length ∧ i = .int .i64 j ∧ at_ = .int .i64 (whenL l n j) ∧ Keeps w wr) (fun _ i _ => l.length - (intOf i).toNat)
  case atStart => exact ⟨0, by omega, rfl, rfl, Keeps.refl _⟩
  case round =>
    obtain ⟨j, hj, rfl, rfl, K⟩ := hrel
    replace K := hide K
    by_cases hlt : j < l.length
    · have i2 : (j : Int) < (l.length : Int) := by omega
      have i0 : (0 : Int) ≤ (j : Int) := by omega
      have hv2 := RD.out.keeps K.out
      obtain ⟨b, off, rfl, _, _⟩ := hv2.parts (by rw [List.length_map]; omega)
      have c0 := row1i hv2 hlt
      have HW := hide (show whenL l n (j + 1) = if l[j]? = some n then (j : Int) else whenL l n j from rfl)
      rw [List.getElem?_eq_getElem hlt] at HW
      generalize hoo : off + j = o at *
      generalize l[j] = x at *
      clear hv2
      simp only [i1] at c0
      by_cases he : x = n
      · have hbe : (x == n) = true := by rw [he]; simp
        have HE : Hid (whenL l n (j + 1) = (j : Int)) := by rw [Hid, HW.out, he, if_pos rfl]
        clear HW
        generalize whenL l n j = W0 at *
        replace he := hide he
        go_wp2_with fail
        go_roundw
        case rel => exact ⟨j + 1, by omega, by go_num, by rw [HE.out], K.out⟩
        case measure => simp [intOf]; omega
      · have hbe : (x == n) = false := by rw [beq_eq_false_iff_ne]; exact he
        have HE : Hid (whenL l n (j + 1) = whenL l n j) := by rw [Hid, HW.out, if_neg (by simpa using he)]
        clear HW
        replace he := hide he
        generalize whenL l n j = W0 at *
        go_wp2_with fail
        go_roundw
        case rel => exact ⟨j + 1, by omega, by go_num, by rw [HE.out], K.out⟩
        case measure => simp [intOf]; omega
    · obtain rfl : j = l.length := by omega
      go_wp2
      go_ret
      exact ⟨rfl, K.out⟩

/-- How far the document's Cut has come: w0 is the world behind the last one that stood ahead. -/
def RCutRel (w : World) (l : List Int) (A : Nat) (v u i : Value) (wr : World) : Prop :=
  ∃ (j : Nat) (w0 : World), j ≤ l.length ∧ i = .int .i64 j ∧ (j ≤ A → v = .slice none 0 0) ∧ Keeps w w0 ∧ OwnsR w0 w.heap.size 3 1 u ((l.take (min j A)).map iv) ∧ Keeps w0 wr ∧ OwnsR wr w0.heap.size 3 1 v (((l.take j).drop A).map iv)
/-- Two lists that read as these. -/
def CutRead (w : World) (l1 l2 : List (List Value)) (e : Ending) (w' : World) : Prop := ∃ v1 v2, e = .returned (.tuple #[v1, v2]) ∧ ReadRow w' v1 1 l1 ∧ ReadRow w' v2 1 l2 ∧ Keeps w w'
theorem CutRead.mk {w w' : World} {l1 l2 : List (List Value)} {v1 v2 : Value} (h : ReadRow w' v1 1 l1) (g : ReadRow w' v2 1 l2) (k : Keeps w w') : CutRead w l1 l2 (.returned (.tuple #[v1, v2])) w' := ⟨v1, v2, rfl, h, g, k⟩
set_option maxHeartbeats 4000000 in
set_option maxRecDepth 100000 in
theorem refCut13_any (v : Value) (l : List Int) (k : Int) (w : World) (hv : ReadRow w v 1 (l.map iv)) (hl : l.length ≤ 1000000) (_ : -9223372036854775808 ≤ k ∧ k ≤ 9223372036854775807) :
    Calls Try.prog 9 #[v, .int .i64 k] w fun e w' => CutRead w ((l.drop (Lr.cutAt l.length k)).map iv) ((l.take (Lr.cutAt l.length k)).map iv) e w' := by
  obtain ⟨a, cap, h1⟩ := hv.len
  rw [List.length_map] at h1
  subst h1
  have RD := hide hv
  clear hv
  have hcl := hide (Lr.cutAt_le l.length k)
  have hcv := hide (Lr.cutAt_ref l.length k)
  generalize Lr.cutAt l.length k = A at *
  go_enter Try.func9, Try.ntmps9
  go_wp2_with fail
  go_loopw [6, 7, 8] (fun v u i wr => RCutRel w l A v u i wr) (fun _ _ i _ => l.length - (intOf i).toNat)
  case atStart => exact ⟨0, w, by omega, rfl, fun _ => rfl, Keeps.refl _, by simpa using OwnsR.nil w w.heap.size 3 1, Keeps.refl _, by simpa using OwnsR.nil w w.heap.size 3 1⟩
  case round =>
    obtain ⟨j, w0, hj, rfl, hn, K0, OU, K1, OV⟩ := hrel
    replace K0 := hide K0
    replace OU := hide OU
    replace K1 := hide K1
    replace OV := hide OV
    replace hn := hide hn
    by_cases hlt : j < l.length
    · have i2 : (j : Int) < (l.length : Int) := by omega
      have i0 : (0 : Int) ≤ (j : Int) := by omega
      have hv2 := RD.out.keeps (K0.out.trans K1.out)
      obtain ⟨b, off, rfl, _, _⟩ := hv2.parts (by rw [List.length_map]; omega)
      have c0 := row1i hv2 hlt
      have HTK := hide (show l.take (j + 1) = l.take j ++ [l[j]] from List.take_succ_eq_append_getElem hlt)
      generalize hoo : off + j = o at *
      generalize l[j] = x at *
      clear hv2
      simp only [i1] at c0
      by_cases hA : A ≤ j
      · have hge : (l.length : Int) - max (min k (l.length : Int)) 0 ≤ (j : Int) := by have := hcv.out; omega
        have HN : Hid (((l.take (j + 1)).drop A).map iv = ((l.take j).drop A).map iv ++ [iv x]) := by
          rw [Hid, HTK.out, List.drop_append_of_le_length (by rw [List.length_take]; omega), List.map_append]; rfl
        have HU : Hid (OwnsR w0 w.heap.size 3 1 u7 ((l.take (min (j + 1) A)).map iv)) := by
          rw [Hid, show min (j + 1) A = min j A by omega]; exact OU.out
        have HLT : Hid ((((l.take j).drop A).map iv).length ≤ j) := by rw [Hid, List.length_map, List.length_drop, List.length_take]; omega
        generalize ((l.take j).drop A).map iv = LL at *
        have hownA := hide (OV.out.alloc (.cells #[i1 x] 3))
        simp only [i1] at hownA
        clear HTK OU OV hn
        go_wp2_with (at_builtin; refine wpList_appR 3 22 1 8 (.int .i64 0) _ Try.underlying22 Try.infoInt rfl (by decide) rfl _ _ rfl w0.heap.size _ _ rfl hownA.out _ _ (iv x) rfl rfl (iv_ones x) ?c1 ?c2 ?c3 ?c4 ?_)
        case c1 =>
          intro jj u hu
          rcases jj with _ | jj
          · simp [iv] at hu
            subst hu
            first | exact World.cell?_alloc_mark _ _ _ (0, 0) 0 | rfl
          · simp [iv] at hu
        case c2 => have := HLT.out; unfold maxLen; omega
        case c3 => have := HLT.out; omega
        case c4 => exact (K1.out.alloc _).size
        intro v' w5 hown5 hb5 _
        have K5 := hide (show Keeps w0 w5 from Below.trans (K1.out.alloc _) hb5)
        have H5 : Hid (OwnsR w5 w0.heap.size 3 1 v' (((l.take (j + 1)).drop A).map iv)) := by rw [Hid, HN.out]; exact hown5
        clear hown5 hb5
        go_wp2
        go_roundw
        case rel => exact ⟨j + 1, w0, by omega, by go_num, fun h => by omega, K0.out, HU.out, K5.out, H5.out⟩
        case measure => simp [intOf]; omega
      · have hge : ¬ ((l.length : Int) - max (min k (l.length : Int)) 0 ≤ (j : Int)) := by have := hcv.out; omega
        obtain rfl := hn.out (by omega)
        have HN : Hid ((l.take (min (j + 1) A)).map iv = (l.take (min j A)).map iv ++ [iv x]) := by
          rw [Hid, show min (j + 1) A = j + 1 by omega, show min j A = j by omega, HTK.out, List.map_append]; rfl
        have HV : Hid (((l.take (j + 1)).drop A).map iv = []) := by
          rw [Hid, List.drop_eq_nil_of_le (by rw [List.length_take]; omega)]; rfl
        have HLT : Hid (((l.take (min j A)).map iv).length ≤ j) := by rw [Hid, List.length_map, List.length_take]; omega
        generalize (l.take (min j A)).map iv = LL at *
        have hownA := hide ((OU.out.below K1.out).alloc (.cells #[i1 x] 3))
        simp only [i1] at hownA
        clear HTK OU OV hn
        go_wp2_with (at_builtin; refine wpList_appR 3 22 1 8 (.int .i64 0) _ Try.underlying22 Try.infoInt rfl (by decide) rfl _ _ rfl w.heap.size _ _ rfl hownA.out _ _ (iv x) rfl rfl (iv_ones x) ?c1 ?c2 ?c3 ?c4 ?_)
        case c1 =>
          intro jj u hu
          rcases jj with _ | jj
          · simp [iv] at hu
            subst hu
            first | exact World.cell?_alloc_mark _ _ _ (0, 0) 0 | rfl
          · simp [iv] at hu
        case c2 => have := HLT.out; unfold maxLen; omega
        case c3 => have := HLT.out; omega
        case c4 => exact Nat.le_trans (K0.out.trans K1.out).size (Nat.le_succ _)
        intro v' w5 hown5 hb5 _
        have K5 := hide (show Keeps w w5 from Below.trans ((K0.out.trans K1.out).alloc _) hb5)
        have H5 : Hid (OwnsR w5 w.heap.size 3 1 v' ((l.take (min (j + 1) A)).map iv)) := by rw [Hid, HN.out]; exact hown5
        have H6 : Hid (OwnsR w5 w5.heap.size 3 1 (.slice none 0 0) (((l.take (j + 1)).drop A).map iv)) := by rw [Hid, HV.out]; exact OwnsR.nil _ _ _ _
        clear hown5 hb5
        go_wp2
        go_roundw
        case rel => exact ⟨j + 1, w5, by omega, by go_num, fun _ => rfl, K5.out, H5.out, Keeps.refl _, H6.out⟩
        case measure => simp [intOf]; omega
    · obtain rfl : j = l.length := by omega
      have h1 : min l.length A = A := by have := hcl.out; omega
      rw [List.take_length] at OV
      rw [h1] at OU
      go_wp2
      go_ret2
      exact CutRead.mk OV.out.read (OU.out.read.keeps K1.out) (K0.out.trans K1.out)

end Go.Proofs.Ytafkpdjcfokgbaa
