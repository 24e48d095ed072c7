/- What name.Labels answers, for every input. -/
import Derived.Test.YtedelldhkjkghaaNameWalk1
import Derived.Test.YtedelldhkjkghaaStrs
namespace Go.Proofs.Ytedelldhkjkghaa
open Go.RowKit

def labelsOf (n : ByteArray) : List (List UInt8) := if Nm.okL (bl n) = true then Nm.labelsL (bl n) else []

theorem sv_bl (x : ByteArray) : sv (bl x) = .string x := by simp [sv, bl]
theorem cell_str (w : World) (x : ByteArray) (t : TypeId) : (w.alloc (.cells #[.string x] t)).cell? ⟨w.heap.size, 0, none⟩ = some (sv (bl x)) := by
  rw [sv_bl]
  exact (World.cell?_alloc_mark w _ _ (0, 0) 0).trans rfl

theorem labels_step (m : ByteArray) (h : Nm.okL (bl m) = true) (hr : bl m ≠ [0]) (hp : 0 < m.size) :
    Nm.labelsL (bl m) = bl (m.extract 1 (1 + m[0].toNat)) :: Nm.labelsL (bl (m.extract (1 + m[0].toNat) m.size)) := by
  obtain ⟨_, q1, q2, q3, q4, q5, q6⟩ := ok_parts m h hr
  have hd := bl_drop m 0 hp
  rw [List.drop_zero] at hd
  have hl := bl_length m
  rw [bl_from, bl_extract]
  conv => lhs; rw [Nm.labelsL, hd]
  rw [Nm.labs_cons q2, show 1 + m[0].toNat - 1 = m[0].toNat by omega, Nat.zero_add]
  congr 1
  rw [List.drop_drop, Nm.labelsL]
  exact Nm.labs_fuel _ _ _ (by simp [List.length_drop, hl]; omega) (by omega)

set_option maxHeartbeats 400000 in
theorem labels_any (n : ByteArray) (w : World) (hn : n.size ≤ maxLen) :
    Calls Try.prog 16 #[.string n] w fun e w' => ∃ v, e = .returned v ∧ OwnsS w' w.heap.size v (labelsOf n) ∧ Keeps w w' := by
  by_cases h : Nm.okL (bl n) = true
  · have hk := (Nm.okL_spec _).1 h
    rw [bl_length] at hk
    have h255 := hk.1
    clear hk
    go_enter Try.func16, Try.ntmps16
    go_wp2_with (go_at_call 14; refine (check_any _ _ hn).mono ?_; rintro e w' ⟨rfl, rfl⟩)
    go_loopw [0, 3] (fun s v wr => ∃ (m : ByteArray) (ds : List (List UInt8)), s = .string m ∧ Nm.okL (bl m) = true ∧ m.size + ds.length ≤ 255 ∧ Nm.labelsL (bl n) = ds ++ Nm.labelsL (bl m) ∧ OwnsS wr w'.heap.size v ds ∧ Below w'.heap.size w' wr) (fun s _ _ => (strOf s).size)
    case atStart => exact ⟨n, [], rfl, h, by simpa using h255, rfl, OwnsS.nil _ _, Below.refl _ _⟩
    case round =>
      obtain ⟨m, ds, rfl, hm, hsz, hls, hown, hbel⟩ := hrel
      have HL := hide hls
      clear hls
      have hsb := hbel.size
      by_cases hr : bl m = [0]
      · have e1 : (m.toList == [0]) = true := by rw [toList_bl, hr]; rfl
        have HF : Hid (labelsOf n = ds) := by
          unfold Hid labelsOf
          rw [if_pos h, HL.out, hr]
          simp [Nm.labelsL, Nm.labs]
        clear hr HL
        go_wp2
        go_ret
        exact ⟨_, rfl, by rw [HF.out]; exact hown, hbel⟩
      · obtain ⟨hp, q1, q2, q3, q4, q5, q6⟩ := ok_parts m hm hr
        have e1 : (m.toList == [0]) = false := by rw [toList_bl]; simpa using hr
        have HS := hide (labels_step m hm hr hp)
        have HQ := hide q6
        have hi : (1 : Int) ≤ ((1 + m[0].toNat : Nat) : Int) := by omega
        have hj : ((1 + m[0].toNat : Nat) : Int) ≤ (m.size : Int) := by omega
        clear hr q1 q2 q6
        go_wp2_with (first | (go_at_call 29; refine (firstEnd_any _ _ hp).mono ?_; rintro e w1 ⟨rfl, rfl⟩) | (at_builtin; refine wpList_appS _ rfl _ _ rfl w'.heap.size _ _ rfl (hown.alloc _) _ _ (bl (m.extract 1 (1 + m[0].toNat))) rfl ?c1 ?c2 ?c3 ?_))
        case c1 => exact cell_str _ _ _
        case c2 => omega
        case c3 => simp; omega
        intro v' w2 hown' hb' _
        have hbel' := (hbel.alloc hsb _).trans hb'
        clear hb' hown hbel
        go_wp2
        go_roundw
        case rel =>
          refine ⟨m.extract (1 + m[0].toNat) m.size, _, rfl, by rw [bl_from]; exact HQ.out, ?_, ?_, hown', hbel'⟩
          · simp [ByteArray.size_extract]; omega
          · rw [HL.out, HS.out]; simp
        case measure => simp [strOf, ByteArray.size_extract]; omega
  · have HF : Hid (labelsOf n = []) := by simp [labelsOf, h, Hid]
    go_enter Try.func16, Try.ntmps16
    go_wp2_with (go_at_call 14; refine (check_any _ _ hn).mono ?_; rintro e w' ⟨rfl, rfl⟩)
    go_ret
    exact ⟨_, rfl, by rw [HF.out]; exact OwnsS.nil _ _, Keeps.refl _⟩
end Go.Proofs.Ytedelldhkjkghaa
