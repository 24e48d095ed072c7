/- Lists of int: dropped, touched, the oldest. No condition but lengths. (Made by tools/gen_lru.py.) -/
import Derived.Test.YtafkpdjcfokgbaaLruAI
namespace Go.Proofs.Ytafkpdjcfokgbaa
open Go.RowKit

def DropReli (w : World) (l : List Int) (k : Int) (v i : Value) (wr : World) : Prop :=
  ∃ j : Nat, j ≤ l.length ∧ i = .int .i64 j ∧ OwnsR wr w.heap.size 3 1 v ((Lr.drop (l.take j) k).map iv) ∧ Keeps w wr

set_option maxHeartbeats 4000000 in
set_option maxRecDepth 100000 in
theorem Drop_i (v : Value) (l : List Int) (k : Int) (w : World) (hv : ReadRow w v 1 (l.map iv)) (hl : l.length ≤ 1000000) :
    Calls Try.prog 14 #[v, i1 k] w fun e w' => REnd w 3 1 ((Lr.drop l k).map iv) e w' := by
  obtain ⟨a, cap, h1⟩ := hv.len
  rw [List.length_map] at h1
  subst h1
  have RD := hide hv
  have HI := hide (fun W => itself_i k W)
  simp only [i1] at HI ⊢
  clear hv
  obtain ⟨i0, hi, hz0, hz1, hz2⟩ := info_parts Try.infoInt
  go_enter Try.func14, Try.ntmps14
  go_wp2_with (refine wpList_make_own _ rfl _ _ 22 rfl w.heap.size 3 i0 _ 1 Try.underlying22 hi hz0 hz1 .i64 .i64 _ (l.length + 1) rfl rfl ?c1 ?c2 ?c3 ?c4 ?_)
  case c1 => go_num
  case c2 => rw [hz2]; omega
  case c3 => unfold maxLen; omega
  case c4 => exact Nat.le_refl _
  intro wm hownm hgm
  have K0 : Keeps w wm := Below.grown (Below.refl _ _) hgm (Nat.le_refl _) fun k hk => by cases hk
  have OW : OwnsR wm w.heap.size 3 1 (.slice (some ⟨w.heap.size, 0, none⟩) 0 (l.length + 1)) [] := ⟨hownm, by simp⟩
  clear hownm hgm hi hz0 hz1 hz2
  replace OW := hide OW
  replace K0 := hide K0
  go_wp2_with fail
  refine (HI.out _).mono ?_
  rintro e w1 ⟨rfl, k1⟩
  replace OW := hide (OW.out.below k1)
  replace K0 := hide (K0.out.trans k1)
  clear k1 HI
  go_wp2_with fail
  go_loopw [5, 8, 17] (fun v _ i wr => DropReli w l k v i wr) (fun _ _ i _ => l.length - (intOf i).toNat)
  case atStart => exact ⟨0, by omega, rfl, by simpa [Lr.drop] using OW.out, K0.out⟩
  case round =>
    obtain ⟨j, hj, rfl, hown, K1⟩ := hrel
    replace hown := hide hown
    replace K1 := hide K1
    clear OW K0
    by_cases hlt : j < l.length
    · have i2 : (j : Int) < (l.length : Int) := by omega
      have i0 : (0 : Int) ≤ (j : Int) := by omega
      have hv2 := RD.out.keeps K1.out
      obtain ⟨b, off, rfl, _, _⟩ := hv2.parts (by rw [List.length_map]; omega)
      have c0 := row1i hv2 hlt
      have HST := hide (Lr.drop_step l k j hlt)
      have HLT : Hid (((Lr.drop (l.take j) k).map iv).length ≤ j) := by
        have := Lr.drop_len (l.take j) k
        rw [List.length_take] at this
        rw [Hid, List.length_map]
        omega
      generalize hoo : off + j = o at *
      generalize l[j] = x at *
      clear hv2
      simp only [i1] at c0
      by_cases he : x = k
      · have hbe : (x != k) = false := by rw [he]; simp
        have hbe2 : (x == k) = true := by rw [he]; simp
        have HN : Hid (Lr.drop (l.take (j + 1)) k = Lr.drop (l.take j) k) := by rw [Hid, HST.out, if_pos he, List.append_nil]
        have H5 : Hid (OwnsR wr w.heap.size 3 1 u5 ((Lr.drop (l.take (j + 1)) k).map iv)) := by rw [Hid, HN.out]; exact hown.out
        replace he := hide he
        clear HST hown
        go_wp2_with fail
        go_roundw
        case rel => exact ⟨j + 1, by omega, by go_num, H5.out, K1.out⟩
        case measure => simp [intOf]; omega
      · have hbe : (x != k) = true := by rw [bne_iff_ne]; exact he
        have hbe2 : (x == k) = false := by rw [beq_eq_false_iff_ne]; exact he
        have HN : Hid ((Lr.drop (l.take (j + 1)) k).map iv = (Lr.drop (l.take j) k).map iv ++ [iv x]) := by rw [Hid, HST.out, if_neg he, List.map_append]; rfl
        replace he := hide he
        clear HST
        generalize hLL : (Lr.drop (l.take j) k).map iv = LL at *
        have hownA := hide (hown.out.alloc (.cells #[i1 x] 3))
        simp only [i1] at hownA
        go_wp2_with (at_builtin; refine wpList_appR 3 22 1 8 (.int .i64 0) _ Try.underlying22 Try.infoInt rfl (by decide) rfl _ _ rfl w.heap.size _ _ rfl hownA.out _ _ (iv x) rfl rfl (iv_ones x) ?c1 ?c2 ?c3 ?c4 ?_)
        case c1 =>
          intro jj u hu
          rcases jj with _ | jj
          · simp [iv] at hu
            subst hu
            exact World.cell?_alloc_mark _ _ _ (0, 0) 0
          · simp [iv] at hu
        case c2 => have := HLT.out; unfold maxLen; omega
        case c3 => have := HLT.out; omega
        case c4 => exact (K1.out.alloc _).size
        intro v' w5 hown5 hb5 _
        have K5 := hide (show Keeps w w5 from Below.trans (K1.out.alloc _) hb5)
        have H5 : Hid (OwnsR w5 w.heap.size 3 1 v' ((Lr.drop (l.take (j + 1)) k).map iv)) := by rw [Hid, HN.out]; exact hown5
        clear hown5 hb5
        go_wp2
        go_roundw
        case rel => exact ⟨j + 1, by omega, by go_num, H5.out, K5.out⟩
        case measure => simp [intOf]; omega
    · obtain rfl : j = l.length := by omega
      rw [List.take_length] at hown
      go_wp2
      go_ret
      exact REnd.mk hown.out K1.out

set_option maxHeartbeats 4000000 in
set_option maxRecDepth 100000 in
theorem Touch_i (v : Value) (l : List Int) (k : Int) (w : World) (hv : ReadRow w v 1 (l.map iv)) (hl : l.length ≤ 1000000) :
    Calls Try.prog 12 #[v, i1 k] w fun e w' => REnd w 3 1 ((Lr.touch l k).map iv) e w' := by
  have HD := hide (Drop_i v l k w hv hl)
  have HLT : Hid (((Lr.drop l k).map iv).length ≤ l.length) := by rw [Hid, List.length_map]; exact Lr.drop_len l k
  have HN : Hid ((Lr.touch l k).map iv = (Lr.drop l k).map iv ++ [iv k]) := by rw [Hid, Lr.touch, List.map_append]; rfl
  simp only [i1] at HD ⊢
  clear hv
  go_enter Try.func12, Try.ntmps12
  go_wp2_with fail
  refine (HD.out).mono ?_
  rintro e w1 ⟨vd, rfl, hown, K1⟩
  replace K1 := hide K1
  generalize hLL : (Lr.drop l k).map iv = LL at *
  have hownA := hide (hown.alloc (.cells #[i1 k] 3))
  clear hown HD
  simp only [i1] at hownA
  go_wp2_with (at_builtin; refine wpList_appR 3 22 1 8 (.int .i64 0) _ Try.underlying22 Try.infoInt rfl (by decide) rfl _ _ rfl w.heap.size _ _ rfl hownA.out _ _ (iv k) rfl rfl (iv_ones k) ?c1 ?c2 ?c3 ?c4 ?_)
  case c1 =>
    intro jj u hu
    rcases jj with _ | jj
    · simp [iv] at hu
      subst hu
      exact World.cell?_alloc_mark _ _ _ (0, 0) 0
    · simp [iv] at hu
  case c2 => have := HLT.out; unfold maxLen; omega
  case c3 => have := HLT.out; omega
  case c4 => exact (K1.out.alloc _).size
  intro v' w5 hown5 hb5 _
  have K5 := hide (show Keeps w w5 from Below.trans (K1.out.alloc _) hb5)
  have H5 : Hid (OwnsR w5 w.heap.size 3 1 v' ((Lr.touch l k).map iv)) := by rw [Hid, HN.out]; exact hown5
  clear hown5 hb5
  go_wp2
  go_ret
  exact REnd.mk H5.out K5.out

/-- What Oldest answers. -/
def oldi (l : List Int) : Int × Bool := match l with | [] => (0, false) | x :: _ => (x, true)
set_option maxHeartbeats 4000000 in
set_option maxRecDepth 100000 in
theorem Oldest_i (v : Value) (l : List Int) (w : World) (hv : ReadRow w v 1 (l.map iv)) :
    Calls Try.prog 10 #[v] w fun e w' => e = .returned (.tuple #[i1 (oldi l).1, .bool (oldi l).2]) ∧ Keeps w w' := by
  obtain ⟨a, cap, h1⟩ := hv.len
  rw [List.length_map] at h1
  subst h1
  cases l with
  | nil =>
    go_enter Try.func10, Try.ntmps10
    go_wp2
    go_ret2
    exact ⟨rfl, Keeps.refl _⟩
  | cons x l =>
    obtain ⟨b, off, rfl, _, _⟩ := hv.parts (by simp)
    have c0 := row1i (j := 0) hv (by simp)
    simp only [List.getElem_cons_zero, i1, Nat.add_zero] at c0
    have hne : ¬ (((x :: l).length : Nat) : Int) = 0 := by rw [List.length_cons]; omega
    have hpo : (0 : Int) < (((x :: l).length : Nat) : Int) := by rw [List.length_cons]; omega
    simp only [oldi, i1]
    generalize (x :: l).length = n at *
    clear hv
    go_enter Try.func10, Try.ntmps10
    go_wp2
    go_ret2
    exact ⟨rfl, Keeps.refl _⟩
end Go.Proofs.Ytafkpdjcfokgbaa
