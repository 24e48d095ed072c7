/- What name.Low, Same, and the document's Small, answer, for every input. -/
import Derived.Test.YthoominldliphaaNameWalk1
import Derived.Test.YthoominldliphaaBytes
import Derived.Test.YthoominldliphaaUtf
import Derived.Test.YthoominldliphaaStrs
namespace Go.Proofs.Ythoominldliphaa
open Go.RowKit

/-- The first p bytes in small letters. -/
def half (l : List UInt8) (p : Nat) : List UInt8 := Nm.lowL (l.take p) ++ l.drop p
theorem half_zero (l : List UInt8) : half l 0 = l := by simp [half, Nm.lowL]
theorem half_all (l : List UInt8) (p : Nat) (h : l.length ≤ p) : half l p = Nm.lowL l := by
  simp [half, List.take_of_length_le h, List.drop_of_length_le h]
theorem half_length (l : List UInt8) (p : Nat) : (half l p).length = l.length := by simp [half, Nm.lowL]; omega
theorem half_get (l : List UInt8) (p j : Nat) : (half l p)[j]? = (l[j]?).map (fun c => if j < p then Nm.lowB c else c) := by
  simp only [half, Nm.lowL, List.getElem?_append, List.length_map, List.length_take, List.getElem?_map, List.getElem?_take, List.getElem?_drop]
  by_cases h : j < p
  · by_cases h2 : j < l.length
    · rw [if_pos (by omega)]; simp [h, h2]
    · have e : l[j]? = none := List.getElem?_eq_none (by omega)
      rw [if_neg (by omega), e, List.getElem?_eq_none (by omega)]
      rfl
  · rw [if_neg (by omega)]
    by_cases h2 : j < l.length
    · rw [show p + (j - min p l.length) = j by omega]
      simp [h]
    · rw [List.getElem?_eq_none (by omega), List.getElem?_eq_none (by omega)]
      rfl
theorem half_keep (l : List UInt8) (p q : Nat) (hpq : p ≤ q) (h : ∀ i (hi : i < l.length), p ≤ i → i < q → Nm.lowB l[i] = l[i]) : half l q = half l p := by
  apply List.ext_getElem?
  intro j
  rw [half_get, half_get]
  by_cases hj : j < l.length
  · rw [List.getElem?_eq_getElem hj]
    simp only [Option.map_some, Option.some.injEq]
    by_cases a : j < p
    · rw [if_pos a, if_pos (by omega)]
    · rw [if_neg a]
      by_cases b : j < q
      · rw [if_pos b]; exact h j hj (by omega) b
      · rw [if_neg b]
  · rw [List.getElem?_eq_none (by omega)]; rfl
theorem half_set (l : List UInt8) (p : Nat) (hp : p < l.length) : (half l p).set p (Nm.lowB l[p]) = half l (p + 1) := by
  apply List.ext_getElem?
  intro j
  rw [List.getElem?_set, half_length, half_get, half_get]
  by_cases e : p = j
  · subst e
    simp [hp]
  · rw [if_neg e]
    by_cases hj : j < l.length
    · rw [List.getElem?_eq_getElem hj]
      simp only [Option.map_some, Option.some.injEq]
      by_cases a : j < p
      · rw [if_pos a, if_pos (by omega)]
      · rw [if_neg a, if_neg (by omega)]
    · rw [List.getElem?_eq_none (by omega)]; rfl
theorem lowB_keep (c : UInt8) (h : ¬ (65 ≤ c.toNat ∧ c.toNat ≤ 90)) : Nm.lowB c = c := by simp only [Nm.lowB, h, if_false]
theorem lowB_up (c : UInt8) (h1 : 65 ≤ c.toNat) (h2 : c.toNat ≤ 90) : bv (Nm.lowB c) = .int .u8 ((c.toNat : Int) - 65 + 97) := by
  simp only [bv, Nm.lowB_toNat, h1, h2, and_self, if_true, Value.int.injEq, true_and]
  omega

/-- A row of bytes, and an iterator in another block. -/
theorem Row.iter {w : World} {G : Nat} {l : List UInt8} (h : Row w G l) (k : Nat) (hk : G ≠ k) (s : ByteArray) (p : Nat) : Row (w.iterAt k s p) G l := by
  intro j hj
  have e := Lib.iterAt_other w k G s p hk
  exact ⟨(World.cell?_of_block (a := ⟨G, j, none⟩) e).trans (h.cell j hj), (World.frozen?_of_block (a := ⟨G, j, none⟩) e).trans (h.free j hj)⟩
theorem setCell_iter {w : World} {k : Nat} {s : ByteArray} {p : Nat} (h : w.heap[k]? = some (.stringIter s p)) (a : Addr) (ha : k ≠ a.block) (u : Value) : (w.setCell a u).heap[k]? = some (.stringIter s p) := by
  rw [Below.heap_setCell w a u k ha]; exact h

def lowS (n : ByteArray) : ByteArray := if Nm.okL (bl n) = true then ⟨(Nm.lowL (bl n)).toArray⟩ else ⟨#[]⟩

set_option maxHeartbeats 400000 in
theorem low_any (n : ByteArray) (w : World) (hn : n.size ≤ maxLen) :
    Calls Try.prog 61 #[.string n] w fun e w' => e = .returned (.string (lowS n)) ∧ Keeps w w' := by
  by_cases h : Nm.okL (bl n) = true
  · have hcv2 := fun w => run_bytes_of_string (P := Try.prog) w 9 58 5 n Try.underlying9 Try.underlying58 Try.underlying5
    have h255 : n.size ≤ 255 := by have := ((Nm.okL_spec _).1 h).1; rw [bl_length] at this; exact this
    go_enter Try.func61, Try.ntmps61
    go_wp2_with (go_at_call 28; refine (check_any _ _ hn).mono ?_; rintro e w' ⟨rfl, rfl⟩)
    clear hcv2
    generalize hcap : grownCap w' n.size 0 5 = cap
    clear hcap
    go_loopw [4] (fun _ wr => ∃ p : Nat, p ≤ n.size ∧ wr.heap[w'.heap.size + 1]? = some (.stringIter n p) ∧ Row wr w'.heap.size (half (bl n) p) ∧ Below w'.heap.size w' wr) (fun _ wr => n.size - wr.iterPos (w'.heap.size + 1))
    case atStart =>
      have hs1 : (w'.alloc (.cells (bytesRow n cap) 5 ((bytesRow n cap).size, (bytesRow n cap).size + 1))).drew.heap.size = w'.heap.size + 1 := by simp
      refine ⟨0, Nat.zero_le _, ?_, ?_, ?_⟩
      · have := World.iter_heap (w'.alloc (.cells (bytesRow n cap) 5 ((bytesRow n cap).size, (bytesRow n cap).size + 1))).drew n 0
        rw [hs1] at this
        exact this
      · rw [half_zero]
        refine Row.below (Row.made w' n cap).drew (by rw [hs1]; omega) ?_
        exact (Below.refl _ _).alloc (Nat.le_refl _) _
      · exact (((Below.refl _ _).alloc (Nat.le_refl _) _).drew).alloc (by rw [hs1]; omega) _
    case round =>
      obtain ⟨p, hp, hit, hrow, hbel⟩ := hrel
      have hpos : wr.iterPos (w'.heap.size + 1) = p := by unfold World.iterPos; rw [hit]
      have HP := hide hpos
      clear hpos
      by_cases hlt : p < n.size
      · have hnx := fun ty => Lib.run_next_any_at (P := Try.prog) wr (w'.heap.size + 1) n p ty hit hlt
        have hlen := half_length (bl n) p
        rw [bl_length] at hlen
        by_cases ha : n[p].toNat < 128
        · have hd := decode_ascii n p hlt ha
          rw [hd] at hnx
          clear hd
          have hR1 := hrow.iter (w'.heap.size + 1) (by omega) n (p + 1)
          have hI1 := Lib.iterAt_heap wr (w'.heap.size + 1) n p (p + 1) hit
          have hB1 := Lib.below_iterAt hbel (k := w'.heap.size + 1) (by omega) n (p + 1)
          have hP1 : (wr.iterAt (w'.heap.size + 1) n (p + 1)).iterPos (w'.heap.size + 1) = p + 1 := by unfold World.iterPos; rw [hI1]
          simp only [] at hnx
          generalize wr.iterAt (w'.heap.size + 1) n (p + 1) = w2 at *
          by_cases hA : 65 ≤ n[p].toNat ∧ n[p].toNat ≤ 90
          · obtain ⟨hA1, hA2⟩ := hA
            have hst := half_set (bl n) p (by rw [bl_length]; exact hlt)
            have hR2 := hR1.set p (Nm.lowB n[p]) (by omega)
            rw [show Nm.lowB n[p] = Nm.lowB ((bl n)[p]'(by rw [bl_length]; exact hlt)) from rfl, hst] at hR2
            rw [show Nm.lowB ((bl n)[p]'(by rw [bl_length]; exact hlt)) = Nm.lowB n[p] from rfl, lowB_up n[p] hA1 hA2] at hR2
            obtain ⟨c0, hc⟩ : ∃ c0, w2.cell? ⟨w'.heap.size, p, none⟩ = some c0 := ⟨_, hR1.cell p (by omega)⟩
            have hf := hR1.free p (by omega)
            have hI2 := setCell_iter hI1 ⟨w'.heap.size, p, none⟩ (by simp) (.int .u8 ((n[p].toNat : Int) - 65 + 97))
            have hP2 : (w2.setCell ⟨w'.heap.size, p, none⟩ (.int .u8 ((n[p].toNat : Int) - 65 + 97))).iterPos (w'.heap.size + 1) = p + 1 := by unfold World.iterPos; rw [hI2]
            have HR2 := hide hR2
            have HI2 := hide hI2
            have HP2 := hide hP2
            clear hR2 hI2 hP2 hst hR1 hI1 hP1 hrow hit
            go_wp2
            go_roundw
            case rel => exact ⟨p + 1, by omega, HI2.out, HR2.out, hB1.setCell (Nat.le_refl _) _⟩
            case measure => rw [HP.out, HP2.out]; omega
          · have hk := half_keep (bl n) p (p + 1) (by omega) (fun i hi a b => by
              obtain rfl : i = p := by omega
              exact lowB_keep n[i] hA)
            have HK := hide hk
            have hR : ¬ ((65 : Int) ≤ n[p].toNat ∧ (n[p].toNat : Int) ≤ 90) := by omega
            clear hk hA hrow hit
            by_cases h65 : (65 : Int) ≤ n[p].toNat
            · have h90 : ¬ (n[p].toNat : Int) ≤ 90 := fun e => hR ⟨h65, e⟩
              clear hR
              go_wp2
              go_roundw
              case rel => exact ⟨p + 1, by omega, hI1, by rw [HK.out]; exact hR1, hB1⟩
              case measure => rw [HP.out, hP1]; omega
            · clear hR
              go_wp2
              go_roundw
              case rel => exact ⟨p + 1, by omega, hI1, by rw [HK.out]; exact hR1, hB1⟩
              case measure => rw [HP.out, hP1]; omega
        · have hd := decode_high n p hlt (by omega)
          have hsp := decode_span n p hlt (by omega)
          generalize Utf8.decode n p = d at *
          have hR1 := hrow.iter (w'.heap.size + 1) (by omega) n (p + d.2)
          have hI1 := Lib.iterAt_heap wr (w'.heap.size + 1) n p (p + d.2) hit
          have hB1 := Lib.below_iterAt hbel (k := w'.heap.size + 1) (by omega) n (p + d.2)
          have hP1 : (wr.iterAt (w'.heap.size + 1) n (p + d.2)).iterPos (w'.heap.size + 1) = p + d.2 := by unfold World.iterPos; rw [hI1]
          have hk := half_keep (bl n) p (p + d.2) (by omega) (fun i hi a b => by
            rw [bl_length] at hi
            have := hsp.2 i a b hi
            exact lowB_keep n[i] (by omega))
          have HK := hide hk
          generalize wr.iterAt (w'.heap.size + 1) n (p + d.2) = w2 at *
          have h90 : ¬ (d.1 : Int) ≤ 90 := by omega
          have h65 : (65 : Int) ≤ d.1 := by omega
          have hsp1 := hsp.1
          have hd2 := hd.2
          clear hk hsp hd hrow hit
          go_wp2
          go_roundw
          case rel => exact ⟨p + d.2, hsp1, hI1, by rw [HK.out]; exact hR1, hB1⟩
          case measure => rw [HP.out, hP1]; omega
      · have hnx := fun ty => Lib.run_next_end_at (P := Try.prog) wr (w'.heap.size + 1) n p ty hit hlt
        have hcv := hrow.conv n.size cap (by rw [half_length, bl_length])
        have HF : Hid (lowS n = ⟨(half (bl n) p).toArray⟩) := by
          unfold Hid lowS
          rw [if_pos h, half_all _ _ (by rw [bl_length]; omega)]
        clear hit hrow
        go_wp2
        go_ret
        exact ⟨ret_str HF.out.symm, hbel⟩
  · have HF : Hid (lowS n = ⟨#[]⟩) := by simp [lowS, h, Hid]
    go_enter Try.func61, Try.ntmps61
    go_wp2_with (go_at_call 28; refine (check_any _ _ hn).mono ?_; rintro e w' ⟨rfl, rfl⟩)
    go_ret
    exact ⟨ret_str HF.out.symm, Keeps.refl _⟩
end Go.Proofs.Ythoominldliphaa
