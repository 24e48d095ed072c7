/- Lists of string: dropped, touched, the oldest. No condition but lengths. (Made by tools/gen_lru.py.) -/
import Derived.Test.YtafkpdjcfokgbaaLruAT
namespace Go.Proofs.Ytafkpdjcfokgbaa
open Go.RowKit

def DropRelt (w : World) (l : List (List UInt8)) (k : (List UInt8)) (v i : Value) (wr : World) : Prop :=
  ∃ j : Nat, j ≤ l.length ∧ i = .int .i64 j ∧ OwnsR wr w.heap.size 9 1 v ((Lr.drop (l.take j) k).map tv) ∧ Keeps w wr

set_option maxHeartbeats 4000000 in
set_option maxRecDepth 100000 in
theorem Drop_t (v : Value) (l : List (List UInt8)) (k : (List UInt8)) (w : World) (hv : ReadRow w v 1 (l.map tv)) (hl : l.length ≤ 1000000) :
    Calls Try.prog 24 #[v, sv k] w fun e w' => REnd w 9 1 ((Lr.drop l k).map tv) e w' := by
  obtain ⟨a, cap, h1⟩ := hv.len
  rw [List.length_map] at h1
  subst h1
  have RD := hide hv
  have HI := hide (fun W => itself_t k W)
  simp only [sv] at HI ⊢
  clear hv
  obtain ⟨i0, hi, hz0, hz1, hz2⟩ := info_parts Try.infoStr
  go_enter Try.func24, Try.ntmps24
  go_wp2_with (refine wpList_make_own _ rfl _ _ 23 rfl w.heap.size 9 i0 _ 1 Try.underlying23 hi hz0 hz1 .i64 .i64 _ (l.length + 1) rfl rfl ?c1 ?c2 ?c3 ?c4 ?_)
  case c1 => go_num
  case c2 => rw [hz2]; omega
  case c3 => unfold maxLen; omega
  case c4 => exact Nat.le_refl _
  intro wm hownm hgm
  have K0 : Keeps w wm := Below.grown (Below.refl _ _) hgm (Nat.le_refl _) fun k hk => by cases hk
  have OW : OwnsR wm w.heap.size 9 1 (.slice (some ⟨w.heap.size, 0, none⟩) 0 (l.length + 1)) [] := ⟨hownm, by simp⟩
  clear hownm hgm hi hz0 hz1 hz2
  replace OW := hide OW
  replace K0 := hide K0
  go_wp2_with fail
  refine (HI.out _).mono ?_
  rintro e w1 ⟨rfl, k1⟩
  replace OW := hide (OW.out.below k1)
  replace K0 := hide (K0.out.trans k1)
  clear k1 HI
  go_wp2_with fail
  go_loopw [5, 8, 17] (fun v _ i wr => DropRelt w l k v i wr) (fun _ _ i _ => l.length - (intOf i).toNat)
  case atStart => exact ⟨0, by omega, rfl, by simpa [Lr.drop] using OW.out, K0.out⟩
  case round =>
    obtain ⟨j, hj, rfl, hown, K1⟩ := hrel
    replace hown := hide hown
    replace K1 := hide K1
    clear OW K0
    by_cases hlt : j < l.length
    · have i2 : (j : Int) < (l.length : Int) := by omega
      have i0 : (0 : Int) ≤ (j : Int) := by omega
      have hv2 := RD.out.keeps K1.out
      obtain ⟨b, off, rfl, _, _⟩ := hv2.parts (by rw [List.length_map]; omega)
      have c0 := row1t hv2 hlt
      have HST := hide (Lr.drop_step l k j hlt)
      have HLT : Hid (((Lr.drop (l.take j) k).map tv).length ≤ j) := by
        have := Lr.drop_len (l.take j) k
        rw [List.length_take] at this
        rw [Hid, List.length_map]
        omega
      generalize hoo : off + j = o at *
      generalize l[j] = x at *
      clear hv2
      simp only [sv] at c0
      by_cases he : x = k
      · have hbe : (x != k) = false := by rw [he]; simp
        have hbe2 : (x == k) = true := by rw [he]; simp
        have HN : Hid (Lr.drop (l.take (j + 1)) k = Lr.drop (l.take j) k) := by rw [Hid, HST.out, if_pos he, List.append_nil]
        have H5 : Hid (OwnsR wr w.heap.size 9 1 u5 ((Lr.drop (l.take (j + 1)) k).map tv)) := by rw [Hid, HN.out]; exact hown.out
        replace he := hide he
        clear HST hown
        go_wp2_with fail
        go_roundw
        case rel => exact ⟨j + 1, by omega, by go_num, H5.out, K1.out⟩
        case measure => simp [intOf]; omega
      · have hbe : (x != k) = true := by rw [bne_iff_ne]; exact he
        have hbe2 : (x == k) = false := by rw [beq_eq_false_iff_ne]; exact he
        have HN : Hid ((Lr.drop (l.take (j + 1)) k).map tv = (Lr.drop (l.take j) k).map tv ++ [tv x]) := by rw [Hid, HST.out, if_neg he, List.map_append]; rfl
        replace he := hide he
        clear HST
        generalize hLL : (Lr.drop (l.take j) k).map tv = LL at *
        have hownA := hide (hown.out.alloc (.cells #[sv x] 9))
        simp only [sv] at hownA
        go_wp2_with (at_builtin; refine wpList_appR 9 23 1 16 (.string ⟨#[]⟩) _ Try.underlying23 Try.infoStr rfl (by decide) rfl _ _ rfl w.heap.size _ _ rfl hownA.out _ _ (tv x) rfl rfl (tv_ones x) ?c1 ?c2 ?c3 ?c4 ?_)
        case c1 =>
          intro jj u hu
          rcases jj with _ | jj
          · simp [tv] at hu
            subst hu
            exact World.cell?_alloc_mark _ _ _ (0, 0) 0
          · simp [tv] at hu
        case c2 => have := HLT.out; unfold maxLen; omega
        case c3 => have := HLT.out; omega
        case c4 => exact (K1.out.alloc _).size
        intro v' w5 hown5 hb5 _
        have K5 := hide (show Keeps w w5 from Below.trans (K1.out.alloc _) hb5)
        have H5 : Hid (OwnsR w5 w.heap.size 9 1 v' ((Lr.drop (l.take (j + 1)) k).map tv)) := by rw [Hid, HN.out]; exact hown5
        clear hown5 hb5
        go_wp2
        go_roundw
        case rel => exact ⟨j + 1, by omega, by go_num, H5.out, K5.out⟩
        case measure => simp [intOf]; omega
    · obtain rfl : j = l.length := by omega
      rw [List.take_length] at hown
      go_wp2
      go_ret
      exact REnd.mk hown.out K1.out

set_option maxHeartbeats 4000000 in
set_option maxRecDepth 100000 in
theorem Touch_t (v : Value) (l : List (List UInt8)) (k : (List UInt8)) (w : World) (hv : ReadRow w v 1 (l.map tv)) (hl : l.length ≤ 1000000) :
    Calls Try.prog 21 #[v, sv k] w fun e w' => REnd w 9 1 ((Lr.touch l k).map tv) e w' := by
  have HD := hide (Drop_t v l k w hv hl)
  have HLT : Hid (((Lr.drop l k).map tv).length ≤ l.length) := by rw [Hid, List.length_map]; exact Lr.drop_len l k
  have HN : Hid ((Lr.touch l k).map tv = (Lr.drop l k).map tv ++ [tv k]) := by rw [Hid, Lr.touch, List.map_append]; rfl
  simp only [sv] at HD ⊢
  clear hv
  go_enter Try.func21, Try.ntmps21
  go_wp2_with fail
  refine (HD.out).mono ?_
  rintro e w1 ⟨vd, rfl, hown, K1⟩
  replace K1 := hide K1
  generalize hLL : (Lr.drop l k).map tv = LL at *
  have hownA := hide (hown.alloc (.cells #[sv k] 9))
  clear hown HD
  simp only [sv] at hownA
  go_wp2_with (at_builtin; refine wpList_appR 9 23 1 16 (.string ⟨#[]⟩) _ Try.underlying23 Try.infoStr rfl (by decide) rfl _ _ rfl w.heap.size _ _ rfl hownA.out _ _ (tv k) rfl rfl (tv_ones k) ?c1 ?c2 ?c3 ?c4 ?_)
  case c1 =>
    intro jj u hu
    rcases jj with _ | jj
    · simp [tv] at hu
      subst hu
      exact World.cell?_alloc_mark _ _ _ (0, 0) 0
    · simp [tv] at hu
  case c2 => have := HLT.out; unfold maxLen; omega
  case c3 => have := HLT.out; omega
  case c4 => exact (K1.out.alloc _).size
  intro v' w5 hown5 hb5 _
  have K5 := hide (show Keeps w w5 from Below.trans (K1.out.alloc _) hb5)
  have H5 : Hid (OwnsR w5 w.heap.size 9 1 v' ((Lr.touch l k).map tv)) := by rw [Hid, HN.out]; exact hown5
  clear hown5 hb5
  go_wp2
  go_ret
  exact REnd.mk H5.out K5.out

/-- What Oldest answers. -/
def oldt (l : List (List UInt8)) : (List UInt8) × Bool := match l with | [] => ([], false) | x :: _ => (x, true)
set_option maxHeartbeats 4000000 in
set_option maxRecDepth 100000 in
theorem Oldest_t (v : Value) (l : List (List UInt8)) (w : World) (hv : ReadRow w v 1 (l.map tv)) :
    Calls Try.prog 25 #[v] w fun e w' => e = .returned (.tuple #[sv (oldt l).1, .bool (oldt l).2]) ∧ Keeps w w' := by
  obtain ⟨a, cap, h1⟩ := hv.len
  rw [List.length_map] at h1
  subst h1
  cases l with
  | nil =>
    go_enter Try.func25, Try.ntmps25
    go_wp2
    go_ret2
    exact ⟨rfl, Keeps.refl _⟩
  | cons x l =>
    obtain ⟨b, off, rfl, _, _⟩ := hv.parts (by simp)
    have c0 := row1t (j := 0) hv (by simp)
    simp only [List.getElem_cons_zero, sv, Nat.add_zero] at c0
    have hne : ¬ (((x :: l).length : Nat) : Int) = 0 := by rw [List.length_cons]; omega
    have hpo : (0 : Int) < (((x :: l).length : Nat) : Int) := by rw [List.length_cons]; omega
    simp only [oldt, sv]
    generalize (x :: l).length = n at *
    clear hv
    go_enter Try.func25, Try.ntmps25
    go_wp2
    go_ret2
    exact ⟨rfl, Keeps.refl _⟩
end Go.Proofs.Ytafkpdjcfokgbaa
