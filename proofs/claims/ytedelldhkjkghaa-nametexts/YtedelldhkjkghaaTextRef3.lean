/- What the document's label answers, for every input. -/
import Derived.Test.YtedelldhkjkghaaTextRef2
import Derived.Deep.RegionLaw
namespace Go.Proofs.Ytedelldhkjkghaa
open Go.RowKit

/-- 'b = append(b, x)', x a byte, as one step of a region that draws. -/
theorem step_app1 {w : World} {ops : Array Oper} {o : Oper} {a : Act} {K : Act → World → Prop} {Q : Exit → Act → World → Prop} {E : Prop} (hgd : o.guard = none) (s x : Operand)
    (ho : o.op = .call { callee := .builtin .append, args := #[s, x], argTypes := #[37, 37] })
    (B : Nat) (v : Value) (l : List UInt8) (hs : a.eval s = v) (hown : Owns w B v l) (ad : Addr) (c : Nat) (b : UInt8) (hx : a.eval x = .slice (some ad) 1 c)
    (hcell : w.cell? ad = some (bv b)) (hlen : l.length + 1 ≤ 140737488355328) (hB : B ≤ w.heap.size)
    (h : ∀ v' w', Owns w' B v' (l ++ [b]) → Below B w w' → K (a.put o.dst v') w') :
    if Region.wanted o (yielded ops a.tmps) = true then Oper.wp Try.prog o a w K Q else E := by
  have hw : Region.wanted o (yielded ops a.tmps) = true := by simp [Region.wanted, hgd]
  rw [if_pos hw]
  obtain ⟨i0, hi, hz0, hz1, hz2⟩ := info_parts Try.infoU8
  refine wp_append_own w s x 37 ho B 5 i0 (.int .u8 0) 1 1 Try.underlying37 hi hz0 hz1 hz2 rfl (by decide) v l.length (l.map bv) hs hown ad 1 c [bv b] hx rfl ?_ (bv_oneCell [b]) ?_ ?_ hB ?_
  · intro j u hu
    match j, hu with
    | 0, hu =>
      simp at hu
      subst hu
      have : ad.add 0 = ad := by simp [Addr.add]
      rw [this]
      exact hcell
  · unfold maxLen; omega
  · omega
  · intro v' w' h2 h3 _
    refine h v' w' ?_ (Below.grown (Below.refl _ _) h3 hB fun k hk => (World.ownsRow.lt hown k hk).1)
    unfold Owns
    rw [List.length_append, List.map_append]
    exact h2

theorem labL_hit (s : ByteArray) (j : Nat) (h : j + 4 ≤ s.size) (hc : s[j] = 92) : Nm.labL ((bl s).drop j) = Nm.val3 s[j + 1] s[j + 2] s[j + 3] :: Nm.labL ((bl s).drop (j + 4)) := by
  rw [bl_drop s j (by omega), hc]
  unfold Nm.labL
  rw [List.length_cons]
  simp only [Nm.labF]
  have hl : ((bl s).drop (j + 1)).length = s.size - (j + 1) := by rw [List.length_drop, bl_length]
  rw [if_pos (by rw [hl]; simp; omega), List.drop_drop, show j + 1 + 3 = j + 4 by omega]
  have g : ∀ k (hk : k < 3), ((bl s).drop (j + 1)).getD k 0 = (s[j + 1 + k]'(by omega)) := by
    intro k hk
    have h1 : k < ((bl s).drop (j + 1)).length := by rw [hl]; omega
    rw [List.getD_eq_getElem?_getD, List.getElem?_eq_getElem h1, Option.getD_some, List.getElem_drop]
    rfl
  rw [g 0 (by omega), g 1 (by omega), g 2 (by omega)]
  congr 1
  exact Nm.labF_fuel _ _ _ (by rw [hl, List.length_drop, bl_length]; omega) (by omega)
theorem labL_miss (s : ByteArray) (j : Nat) (h : j < s.size) (hc : ¬ (s[j] = 92 ∧ j + 4 ≤ s.size)) : Nm.labL ((bl s).drop j) = s[j] :: Nm.labL ((bl s).drop (j + 1)) := by
  rw [bl_drop s j h]
  unfold Nm.labL
  rw [List.length_cons]
  simp only [Nm.labF]
  have hl : ((bl s).drop (j + 1)).length = s.size - (j + 1) := by rw [List.length_drop, bl_length]
  rw [if_neg (by rw [hl]; intro q; exact hc ⟨q.1, by have := q.2; omega⟩)]

theorem val3_int (a b c : UInt8) : ((Nm.val3 a b c).toNat : Int) = ((((a.toNat : Int) - 48) % 256 * 100) % 256 + (((b.toNat : Int) - 48) % 256 * 10) % 256 + ((c.toNat : Int) - 48) % 256) % 256 := by
  have ha := UInt8.toNat_lt a
  have hb := UInt8.toNat_lt b
  have hc := UInt8.toNat_lt c
  unfold Nm.val3
  rw [UInt8.toNat_add, UInt8.toNat_add, UInt8.toNat_mul, UInt8.toNat_mul, UInt8.toNat_sub, UInt8.toNat_sub, UInt8.toNat_sub]
  rw [show (100 : UInt8).toNat = 100 from rfl, show (10 : UInt8).toNat = 10 from rfl, show (48 : UInt8).toNat = 48 from rfl]
  omega

theorem cell_val3 (wr : World) (a b c : UInt8) (t : TypeId) : (wr.alloc (.cells #[.int .u8 (IntKind.u8.wrap (IntKind.u8.wrap (IntKind.u8.wrap (IntKind.u8.wrap ((a.toNat : Int) - 48) * 100) + IntKind.u8.wrap (IntKind.u8.wrap ((b.toNat : Int) - 48) * 10)) + IntKind.u8.wrap ((c.toNat : Int) - 48)))] t)).drew.cell? ⟨wr.heap.size, 0, none⟩ = some (bv (Nm.val3 a b c)) := by
  refine (World.cell?_alloc_mark wr _ _ (0, 0) 0).trans ?_
  simp only [IntKind.wrap_u8]
  show some (Value.int .u8 _) = some (Value.int .u8 _)
  rw [val3_int]
  congr 2
  omega

set_option maxHeartbeats 2000000 in
theorem label_any (s : ByteArray) (w : World) (hs : s.size ≤ 1100) :
    Calls Try.prog 34 #[.string s] w fun e w' => e = .returned (.string ⟨(Nm.labL (bl s)).toArray⟩) ∧ Keeps w w' := by
  go_enter Try.func34, Try.ntmps34
  go_wp2
  go_loopw [3, 4] (fun b i wr => ∃ (j : Nat) (ds : List UInt8), j ≤ s.size ∧ i = .int .i64 j ∧ ds.length ≤ j ∧ Owns wr w.heap.size b ds ∧ Below w.heap.size w wr ∧ Nm.labL (bl s) = ds ++ Nm.labL ((bl s).drop j)) (fun _ i _ => s.size - (intOf i).toNat)
  case atStart => exact ⟨0, [], Nat.zero_le _, rfl, by simp, Owns.nil _ _, Below.refl _ _, by simp⟩
  case round =>
    obtain ⟨j, ds, hjs, rfl, hdl, hown, hbel, hq⟩ := hrel
    have hsb := hbel.size
    have HQ := hide hq
    clear hq
    by_cases hlt : j < s.size
    · have i2 : (j : Int) < (s.size : Int) := by omega
      by_cases hc : s[j] = 92
      · have z1 : ((s[j].toNat : Int) == 92) = true := by rw [hc]; rfl
        by_cases h4 : j + 4 ≤ s.size
        · have HS := hide (labL_hit s j h4 hc)
          have i3 : (4 : Int) ≤ (s.size : Int) - (j : Int) := by omega
          have j1 : j + 1 < s.size := by omega
          have j2 : j + 2 < s.size := by omega
          have j3 : j + 3 < s.size := by omega
          have HV := hide (val3_int s[j + 1] s[j + 2] s[j + 3])
          have k1 : IntKind.i64.wrap ((j : Int) + 1) = (j : Int) + 1 := by rw [IntKind.wrap_i64]; omega
          have l1 : (0 : Int) ≤ (j : Int) + 1 := by omega
          have m1 : (j : Int) + 1 < (s.size : Int) := by omega
          have k2 : IntKind.i64.wrap ((j : Int) + 2) = (j : Int) + 2 := by rw [IntKind.wrap_i64]; omega
          have l2 : (0 : Int) ≤ (j : Int) + 2 := by omega
          have m2 : (j : Int) + 2 < (s.size : Int) := by omega
          have k3 : IntKind.i64.wrap ((j : Int) + 3) = (j : Int) + 3 := by rw [IntKind.wrap_i64]; omega
          have l3 : (0 : Int) ≤ (j : Int) + 3 := by omega
          have m3 : (j : Int) + 3 < (s.size : Int) := by omega
          clear hc
          go_wp2
          go_region_law (refine step_app1 rfl _ _ rfl w.heap.size _ ds rfl (hown.drew.alloc _) _ _ (Nm.val3 s[j + 1] s[j + 2] s[j + 3]) rfl (cell_val3 wr s[j + 1] s[j + 2] s[j + 3] _) (by omega) (by first | omega | (simp; omega)) ?_; intro v2 w2 hown2 hb2)
          all_goals
            have hbel2 := (hbel.drew.alloc (by simpa using hsb) _).trans hb2
            clear hb2 hown hbel
            go_wp2
            go_roundw
            case rel => exact ⟨j + 4, _, by omega, by go_num, by simp; omega, hown2, hbel2, by rw [HQ.out, HS.out]; simp⟩
            case measure => simp [intOf]; omega
        · have i3 : ¬ (4 : Int) ≤ (s.size : Int) - (j : Int) := by omega
          have HS := hide (labL_miss s j hlt (by omega))
          clear hc
          go_wp2_with (at_builtin; refine wpList_app1 _ rfl _ _ rfl w.heap.size _ _ rfl (hown.alloc _) _ _ s[j] rfl ?b1 ?b2 ?b3 ?_)
          case b1 => first | exact (World.cell?_alloc_mark _ _ _ (0, 0) 0).trans rfl | rfl
          case b2 => omega
          case b3 => first | omega | (simp; omega)
          intro v2 w2 hown2 hb2 _
          have hbel2 := (hbel.alloc (by omega) _).trans hb2
          clear hb2 hown hbel
          go_wp2
          go_roundw
          case rel => exact ⟨j + 1, _, by omega, by go_num, by simp; omega, hown2, hbel2, by rw [HQ.out, HS.out]; simp⟩
          case measure => simp [intOf]; omega
      · have z1 : ((s[j].toNat : Int) == 92) = false := by
          have := mt (c_eq s[j] 92 (by decide)).1 hc
          simpa using this
        have HS := hide (labL_miss s j hlt (fun q => hc q.1))
        clear hc
        go_wp2_with (at_builtin; refine wpList_app1 _ rfl _ _ rfl w.heap.size _ _ rfl (hown.alloc _) _ _ s[j] rfl ?c1 ?c2 ?c3 ?_)
        case c1 => first | exact (World.cell?_alloc_mark _ _ _ (0, 0) 0).trans rfl | rfl
        case c2 => omega
        case c3 => first | omega | (simp; omega)
        intro v2 w2 hown2 hb2 _
        have hbel2 := (hbel.alloc (by omega) _).trans hb2
        clear hb2 hown hbel
        go_wp2
        go_roundw
        case rel => exact ⟨j + 1, _, by omega, by go_num, by simp; omega, hown2, hbel2, by rw [HQ.out, HS.out]; simp⟩
        case measure => simp [intOf]; omega
    · have HE : Hid (Nm.labL (bl s) = ds) := by
        unfold Hid
        rw [HQ.out, List.drop_of_length_le (by rw [bl_length]; omega)]
        simp [Nm.labL, Nm.labF]
      have hcv := Owns.conv hown
      clear hown
      go_wp2
      go_ret
      exact ⟨ret_str (by rw [HE.out]), hbel⟩
end Go.Proofs.Ytedelldhkjkghaa
