/- Lists of int: the document's own answers. No condition but lengths. (Made by tools/gen_lru.py.) -/
import Derived.Test.YtafkpdjcfokgbaaLruCI
namespace Go.Proofs.Ytafkpdjcfokgbaa
open Go.RowKit

def RDropReli (w : World) (l : List Int) (k : Int) (v i : Value) (wr : World) : Prop :=
  ∃ j : Nat, j ≤ l.length ∧ i = .int .i64 j ∧ OwnsR wr w.heap.size 3 1 v ((Lr.drop (l.take j) k).map iv) ∧ Keeps w wr
set_option maxHeartbeats 4000000 in
set_option maxRecDepth 100000 in
theorem refDrop13_any (v : Value) (l : List Int) (k : Int) (w : World) (hv : ReadRow w v 1 (l.map iv)) (hl : l.length ≤ 1000000) :
    Calls Try.prog 15 #[v, i1 k] w fun e w' => REnd w 3 1 ((Lr.drop l k).map iv) e w' := by
  obtain ⟨a, cap, h1⟩ := hv.len
  rw [List.length_map] at h1
  subst h1
  have RD := hide hv
  simp only [i1]
  clear hv
  go_enter Try.func15, Try.ntmps15
  go_wp2_with fail
  go_loopw [5, 6] (fun v i wr => RDropReli w l k v i wr) (fun _ i _ => l.length - (intOf i).toNat)
  case atStart => exact ⟨0, by omega, rfl, by simpa [Lr.drop] using OwnsR.nil w w.heap.size 3 1, Keeps.refl _⟩
  case round =>
    obtain ⟨j, hj, rfl, hown, K1⟩ := hrel
    replace hown := hide hown
    replace K1 := hide K1
    by_cases hlt : j < l.length
    · have i2 : (j : Int) < (l.length : Int) := by omega
      have i0 : (0 : Int) ≤ (j : Int) := by omega
      have hv2 := RD.out.keeps K1.out
      obtain ⟨b, off, rfl, _, _⟩ := hv2.parts (by rw [List.length_map]; omega)
      have c0 := row1i hv2 hlt
      have HST := hide (Lr.drop_step l k j hlt)
      have HLT : Hid (((Lr.drop (l.take j) k).map iv).length ≤ j) := by
        have := Lr.drop_len (l.take j) k
        rw [List.length_take] at this
        rw [Hid, List.length_map]
        omega
      generalize hoo : off + j = o at *
      generalize l[j] = x at *
      clear hv2
      simp only [i1] at c0
      by_cases he : x = k
      · have hbe : (x != k) = false := by rw [he]; simp
        have hbe2 : (x == k) = true := by rw [he]; simp
        have HN : Hid (Lr.drop (l.take (j + 1)) k = Lr.drop (l.take j) k) := by rw [Hid, HST.out, if_pos he, List.append_nil]
        have H5 : Hid (OwnsR wr w.heap.size 3 1 u5 ((Lr.drop (l.take (j + 1)) k).map iv)) := by rw [Hid, HN.out]; exact hown.out
        replace he := hide he
        clear HST hown
        go_wp2_with fail
        go_roundw
        case rel => exact ⟨j + 1, by omega, by go_num, H5.out, K1.out⟩
        case measure => simp [intOf]; omega
      · have hbe : (x != k) = true := by rw [bne_iff_ne]; exact he
        have hbe2 : (x == k) = false := by rw [beq_eq_false_iff_ne]; exact he
        have HN : Hid ((Lr.drop (l.take (j + 1)) k).map iv = (Lr.drop (l.take j) k).map iv ++ [iv x]) := by rw [Hid, HST.out, if_neg he, List.map_append]; rfl
        replace he := hide he
        clear HST
        generalize hLL : (Lr.drop (l.take j) k).map iv = LL at *
        have hownA := hide (hown.out.alloc (.cells #[i1 x] 3))
        simp only [i1] at hownA
        go_wp2_with (at_builtin; refine wpList_appR 3 22 1 8 (.int .i64 0) _ Try.underlying22 Try.infoInt rfl (by decide) rfl _ _ rfl w.heap.size _ _ rfl hownA.out _ _ (iv x) rfl rfl (iv_ones x) ?c1 ?c2 ?c3 ?c4 ?_)
        case c1 =>
          intro jj u hu
          rcases jj with _ | jj
          · simp [iv] at hu
            subst hu
            exact World.cell?_alloc_mark _ _ _ (0, 0) 0
          · simp [iv] at hu
        case c2 => have := HLT.out; unfold maxLen; omega
        case c3 => have := HLT.out; omega
        case c4 => exact (K1.out.alloc _).size
        intro v' w5 hown5 hb5 _
        have K5 := hide (show Keeps w w5 from Below.trans (K1.out.alloc _) hb5)
        have H5 : Hid (OwnsR w5 w.heap.size 3 1 v' ((Lr.drop (l.take (j + 1)) k).map iv)) := by rw [Hid, HN.out]; exact hown5
        clear hown5 hb5
        go_wp2
        go_roundw
        case rel => exact ⟨j + 1, by omega, by go_num, H5.out, K5.out⟩
        case measure => simp [intOf]; omega
    · obtain rfl : j = l.length := by omega
      rw [List.take_length] at hown
      go_wp2
      go_ret
      exact REnd.mk hown.out K1.out

set_option maxHeartbeats 4000000 in
set_option maxRecDepth 100000 in
theorem refTouch13_any (v : Value) (l : List Int) (k : Int) (w : World) (hv : ReadRow w v 1 (l.map iv)) (hl : l.length ≤ 1000000) :
    Calls Try.prog 13 #[v, i1 k] w fun e w' => REnd w 3 1 ((Lr.touch l k).map iv) e w' := by
  have HD := hide (refDrop13_any v l k w hv hl)
  have HLT : Hid (((Lr.drop l k).map iv).length ≤ l.length) := by rw [Hid, List.length_map]; exact Lr.drop_len l k
  have HN : Hid ((Lr.touch l k).map iv = (Lr.drop l k).map iv ++ [iv k]) := by rw [Hid, Lr.touch, List.map_append]; rfl
  simp only [i1] at HD ⊢
  clear hv
  go_enter Try.func13, Try.ntmps13
  go_wp2_with fail
  refine (HD.out).mono ?_
  rintro e w1 ⟨vd, rfl, hown, K1⟩
  replace K1 := hide K1
  generalize hLL : (Lr.drop l k).map iv = LL at *
  have hownA := hide (hown.alloc (.cells #[i1 k] 3))
  clear hown HD
  simp only [i1] at hownA
  go_wp2_with (at_builtin; refine wpList_appR 3 22 1 8 (.int .i64 0) _ Try.underlying22 Try.infoInt rfl (by decide) rfl _ _ rfl w.heap.size _ _ rfl hownA.out _ _ (iv k) rfl rfl (iv_ones k) ?c1 ?c2 ?c3 ?c4 ?_)
  case c1 =>
    intro jj u hu
    rcases jj with _ | jj
    · simp [iv] at hu
      subst hu
      exact World.cell?_alloc_mark _ _ _ (0, 0) 0
    · simp [iv] at hu
  case c2 => have := HLT.out; unfold maxLen; omega
  case c3 => have := HLT.out; omega
  case c4 => exact (K1.out.alloc _).size
  intro v' w5 hown5 hb5 _
  have K5 := hide (show Keeps w w5 from Below.trans (K1.out.alloc _) hb5)
  have H5 : Hid (OwnsR w5 w.heap.size 3 1 v' ((Lr.touch l k).map iv)) := by rw [Hid, HN.out]; exact hown5
  clear hown5 hb5
  go_wp2
  go_ret
  exact REnd.mk H5.out K5.out

/-- Two lists that were made are the same. -/
def SamRel (w : World) (a b : List Int) (i : Value) (wr : World) : Prop :=
  ∃ j : Nat, j ≤ a.length ∧ i = .int .i64 j ∧ a.take j = b.take j ∧ Keeps w wr
set_option maxHeartbeats 4000000 in
set_option maxRecDepth 100000 in
theorem refSame13_any (v u : Value) (a b : List Int) (w : World) (hv : ReadRow w v 1 (a.map iv)) (hu : ReadRow w u 1 (b.map iv)) (ha : a.length ≤ 1000000000) :
    Calls Try.prog 11 #[v, u] w fun e w' => e = .returned (.bool (decide (a = b))) ∧ Keeps w w' := by
  obtain ⟨av, cap, h1⟩ := hv.len
  rw [List.length_map] at h1
  subst h1
  obtain ⟨au, cap2, h1⟩ := hu.len
  rw [List.length_map] at h1
  subst h1
  by_cases hlen : a.length = b.length
  · have RV := hide hv
    have RU := hide hu
    clear hv hu
    have hlb : b.length = a.length := hlen.symm
    rw [hlb] at RU ⊢
    replace hlen := hide hlen
    clear hlb
    go_enter Try.func11, Try.ntmps11
    go_wp2_with fail
    go_loopw [5] (fun i wr => SamRel w a b i wr) (fun i _ => a.length - (intOf i).toNat)
    case atStart => exact ⟨0, by omega, rfl, rfl, Keeps.refl _⟩
    case round =>
      obtain ⟨j, hj, rfl, hsm, K1⟩ := hrel
      replace hsm := hide hsm
      replace K1 := hide K1
      by_cases hlt : j < a.length
      · have i2 : (j : Int) < (a.length : Int) := by omega
        have i0 : (0 : Int) ≤ (j : Int) := by omega
        have hltb : j < b.length := by have := hlen.out; omega
        have hv2 := RV.out.keeps K1.out
        have hu2 := RU.out.keeps K1.out
        obtain ⟨b1, o1, rfl, _, _⟩ := hv2.parts (by rw [List.length_map]; omega)
        rw [show a.length = b.length from hlen.out] at hu2
        obtain ⟨b2, o2, rfl, _, _⟩ := ReadRow.parts (n := b.length) hu2 (by rw [List.length_map]; omega)
        have c0 := row1i hv2 hlt
        have c1 := row1i hu2 hltb
        have HT1 := hide (show a.take (j + 1) = a.take j ++ [a[j]] from List.take_succ_eq_append_getElem hlt)
        have HT2 := hide (show b.take (j + 1) = b.take j ++ [b[j]] from List.take_succ_eq_append_getElem hltb)
        have HN := hide (show a[j] ≠ b[j] → a ≠ b from fun h e => by subst e; exact h rfl)
        generalize hoo : o1 + j = p1 at *
        generalize hoo2 : o2 + j = p2 at *
        generalize a[j] = x at *
        generalize b[j] = y at *
        clear hv2 hu2
        simp only [i1] at c0 c1
        by_cases he : x = y
        · subst he
          have hbe : (x != x) = false := by simp
          have HR := hide (show a.take (j + 1) = b.take (j + 1) by rw [HT1.out, HT2.out, hsm.out])
          clear HT1 HT2 HN hsm
          go_upto_region 6 with fail
          go_region
          go_wp2_with fail
          go_roundw
          case rel => exact ⟨j + 1, by omega, by go_num, HR.out, K1.out.drew⟩
          case measure => simp [intOf]; omega
        · have hbe : (x != y) = true := by rw [bne_iff_ne]; exact he
          have HE := hide (show decide (a = b) = false from decide_eq_false (HN.out he))
          replace he := hide he
          clear HT1 HT2 HN hsm
          go_upto_region 6 with fail
          go_region
          go_wp2
          go_ret
          exact ⟨ret_bool HE.out.symm, K1.out.drew⟩
      · obtain rfl : j = a.length := by omega
        have HE := hide (show decide (a = b) = true from decide_eq_true (by have := hsm.out; rw [List.take_length, hlen.out, List.take_length] at this; exact this))
        go_wp2
        go_ret
        exact ⟨ret_bool HE.out.symm, K1.out⟩
  · have HE := hide (show decide (a = b) = false from decide_eq_false (fun e => hlen (by rw [e])))
    have hli : ¬ ((a.length : Int) = (b.length : Int)) := by omega
    have hbe : ((a.length : Int) != (b.length : Int)) = true := by rw [bne_iff_ne]; exact hli
    clear hv hu hlen
    go_enter Try.func11, Try.ntmps11
    go_wp2
    go_ret
    exact ⟨ret_bool HE.out.symm, Keeps.refl _⟩


end Go.Proofs.Ytafkpdjcfokgbaa
