/- Lists of string: the document's own answers. No condition but lengths. (Made by tools/gen_lru.py.) -/
import Derived.Test.YtafkpdjcfokgbaaLruCT
namespace Go.Proofs.Ytafkpdjcfokgbaa
open Go.RowKit

def RDropRelt (w : World) (l : List (List UInt8)) (k : (List UInt8)) (v i : Value) (wr : World) : Prop :=
  ∃ j : Nat, j ≤ l.length ∧ i = .int .i64 j ∧ OwnsR wr w.heap.size 9 1 v ((Lr.drop (l.take j) k).map tv) ∧ Keeps w wr
set_option maxHeartbeats 4000000 in
set_option maxRecDepth 100000 in
theorem refTouchT_any (v : Value) (l : List (List UInt8)) (k : List UInt8) (w : World) (hv : ReadRow w v 1 (l.map tv)) (hl : l.length ≤ 1000000) :
    Calls Try.prog 22 #[v, sv k] w fun e w' => REnd w 9 1 ((Lr.touch l k).map tv) e w' := by
  obtain ⟨a, cap, h1⟩ := hv.len
  rw [List.length_map] at h1
  subst h1
  have RD := hide hv
  simp only [sv]
  clear hv
  go_enter Try.func22, Try.ntmps22
  go_wp2_with fail
  go_loopw [5, 6] (fun v i wr => RDropRelt w l k v i wr) (fun _ i _ => l.length - (intOf i).toNat)
  case atStart => exact ⟨0, by omega, rfl, by simpa [Lr.drop] using OwnsR.nil w w.heap.size 9 1, Keeps.refl _⟩
  case round =>
    obtain ⟨j, hj, rfl, hown, K1⟩ := hrel
    replace hown := hide hown
    replace K1 := hide K1
    by_cases hlt : j < l.length
    · have i2 : (j : Int) < (l.length : Int) := by omega
      have i0 : (0 : Int) ≤ (j : Int) := by omega
      have hv2 := RD.out.keeps K1.out
      obtain ⟨b, off, rfl, _, _⟩ := hv2.parts (by rw [List.length_map]; omega)
      have c0 := row1t hv2 hlt
      have HST := hide (Lr.drop_step l k j hlt)
      have HLT : Hid (((Lr.drop (l.take j) k).map tv).length ≤ j) := by
        have := Lr.drop_len (l.take j) k
        rw [List.length_take] at this
        rw [Hid, List.length_map]
        omega
      generalize hoo : off + j = o at *
      generalize l[j] = x at *
      clear hv2
      simp only [sv] at c0
      by_cases he : x = k
      · have hbe : (x != k) = false := by rw [he]; simp
        have hbe2 : (x == k) = true := by rw [he]; simp
        have HN : Hid (Lr.drop (l.take (j + 1)) k = Lr.drop (l.take j) k) := by rw [Hid, HST.out, if_pos he, List.append_nil]
        have H5 : Hid (OwnsR wr w.heap.size 9 1 u5 ((Lr.drop (l.take (j + 1)) k).map tv)) := by rw [Hid, HN.out]; exact hown.out
        replace he := hide he
        clear HST hown
        go_wp2_with fail
        go_roundw
        case rel => exact ⟨j + 1, by omega, by go_num, H5.out, K1.out⟩
        case measure => simp [intOf]; omega
      · have hbe : (x != k) = true := by rw [bne_iff_ne]; exact he
        have hbe2 : (x == k) = false := by rw [beq_eq_false_iff_ne]; exact he
        have HN : Hid ((Lr.drop (l.take (j + 1)) k).map tv = (Lr.drop (l.take j) k).map tv ++ [tv x]) := by rw [Hid, HST.out, if_neg he, List.map_append]; rfl
        replace he := hide he
        clear HST
        generalize hLL : (Lr.drop (l.take j) k).map tv = LL at *
        have hownA := hide (hown.out.alloc (.cells #[sv x] 9))
        simp only [sv] at hownA
        go_wp2_with (at_builtin; refine wpList_appR 9 23 1 16 (.string ⟨#[]⟩) _ Try.underlying23 Try.infoStr rfl (by decide) rfl _ _ rfl w.heap.size _ _ rfl hownA.out _ _ (tv x) rfl rfl (tv_ones x) ?c1 ?c2 ?c3 ?c4 ?_)
        case c1 =>
          intro jj u hu
          rcases jj with _ | jj
          · simp [tv] at hu
            subst hu
            exact World.cell?_alloc_mark _ _ _ (0, 0) 0
          · simp [tv] at hu
        case c2 => have := HLT.out; unfold maxLen; omega
        case c3 => have := HLT.out; omega
        case c4 => exact (K1.out.alloc _).size
        intro v' w5 hown5 hb5 _
        have K5 := hide (show Keeps w w5 from Below.trans (K1.out.alloc _) hb5)
        have H5 : Hid (OwnsR w5 w.heap.size 9 1 v' ((Lr.drop (l.take (j + 1)) k).map tv)) := by rw [Hid, HN.out]; exact hown5
        clear hown5 hb5
        go_wp2
        go_roundw
        case rel => exact ⟨j + 1, by omega, by go_num, H5.out, K5.out⟩
        case measure => simp [intOf]; omega
    · obtain rfl : j = l.length := by omega
      rw [List.take_length] at hown
      have HLT : Hid (((Lr.drop l k).map tv).length ≤ l.length) := by rw [Hid, List.length_map]; exact Lr.drop_len l k
      have HN : Hid ((Lr.touch l k).map tv = (Lr.drop l k).map tv ++ [tv k]) := by rw [Hid, Lr.touch, List.map_append]; rfl
      generalize hLL : (Lr.drop l k).map tv = LL at *
      have hownA := hide (hown.out.alloc (.cells #[sv k] 9))
      simp only [sv] at hownA
      go_wp2_with (at_builtin; refine wpList_appR 9 23 1 16 (.string ⟨#[]⟩) _ Try.underlying23 Try.infoStr rfl (by decide) rfl _ _ rfl w.heap.size _ _ rfl hownA.out _ _ (tv k) rfl rfl (tv_ones k) ?c1 ?c2 ?c3 ?c4 ?_)
      case c1 =>
        intro jj u hu
        rcases jj with _ | jj
        · simp [tv] at hu
          subst hu
          exact World.cell?_alloc_mark _ _ _ (0, 0) 0
        · simp [tv] at hu
      case c2 => have := HLT.out; unfold maxLen; omega
      case c3 => have := HLT.out; omega
      case c4 => exact (K1.out.alloc _).size
      intro v' w5 hown5 hb5 _
      have K5 := hide (show Keeps w w5 from Below.trans (K1.out.alloc _) hb5)
      have H5 : Hid (OwnsR w5 w.heap.size 9 1 v' ((Lr.touch l k).map tv)) := by rw [Hid, HN.out]; exact hown5
      clear hown5 hb5
      go_wp2
      go_ret
      exact REnd.mk H5.out K5.out

end Go.Proofs.Ytafkpdjcfokgbaa
