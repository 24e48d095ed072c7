/- What name.split and Parse answer, for every input. -/
import Derived.Test.YtedelldhkjkghaaTextWalk2
import Derived.Test.YtedelldhkjkghaaNameWalk5
namespace Go.Proofs.Ytedelldhkjkghaa
open Go.RowKit

theorem OwnsS.byOth {w w' : World} {B : Nat} {v : Value} {ls : List (List UInt8)} (h : OwnsS w B v ls) (ho : Oth w w') : OwnsS w' B v ls := by
  refine ⟨h.1, ?_⟩
  rcases h.2 with hn | ⟨g, cap, cur, rfl, hB, hg, rest⟩
  · exact .inl hn
  · exact .inr ⟨g, cap, cur, rfl, hB, ho g _ hg (by simp) (fun c fz e => by simp at e), rest⟩
theorem Owns.byOthS {w w' : World} {B : Nat} {v : Value} {l : List UInt8} (h : Owns w B v l) (ho : OthS w w') : Owns w' B v l := by
  refine ⟨h.1, ?_⟩
  rcases h.2 with hn | ⟨g, cap, cur, rfl, hB, hg, rest⟩
  · exact .inl hn
  · exact .inr ⟨g, cap, cur, rfl, hB, ho g _ hg (by simp) (fun c fz e => by simp at e), rest⟩
theorem OwnsS.iterAt {w : World} {B : Nat} {v : Value} {l : List (List UInt8)} (h : OwnsS w B v l) {k : Nat} {s : ByteArray} {p : Nat} (hk : w.heap[k]? = some (.stringIter s p)) (p' : Nat) : OwnsS (w.iterAt k s p') B v l := by
  refine ⟨h.1, ?_⟩
  rcases h.2 with hn | ⟨g, cap, cur, rfl, hB, hg, rest⟩
  · exact .inl hn
  · have hkg : g ≠ k := by
      intro e1
      rw [e1, hk] at hg
      cases hg
    exact .inr ⟨g, cap, cur, rfl, hB, (Lib.iterAt_other w k g s p' hkg).trans hg, rest⟩

theorem take_next (t : ByteArray) (p : Nat) (h : p < t.size) : (bl t).take (p + 1) = (bl t).take p ++ [t[p]] := by
  rw [List.take_succ_eq_append_getElem (by rw [bl_length]; exact h), bl_get t p h]
theorem run_next (t : ByteArray) (p : Nat) (h : p < t.size) (s : Nm.St) (hr : Nm.run Nm.init ((bl t).take p) = some s) : Nm.run Nm.init ((bl t).take (p + 1)) = Nm.step s t[p] := by
  rw [take_next t p h, Nm.run_snoc, hr]; rfl
theorem split_none (t : ByteArray) (p : Nat) (h : p < t.size) (s : Nm.St) (hr : Nm.run Nm.init ((bl t).take p) = some s) (hs : Nm.step s t[p] = none) : Nm.splitO (bl t) = none := by
  have h1 := run_next t p h s hr
  rw [hs] at h1
  have h2 := Nm.run_none Nm.init ((bl t).take (p + 1)) ((bl t).drop (p + 1)) h1
  rw [List.take_append_drop] at h2
  rw [Nm.splitO, h2]; rfl
theorem run_len (u : List UInt8) (s : Nm.St) (hr : Nm.run Nm.init u = some s) : s.ls.length + s.cur.length ≤ u.length := by
  obtain ⟨p, hu, _⟩ := Nm.inv_run u Nm.init s [] ⟨[], rfl, .inl ⟨rfl, rfl⟩⟩ hr
  rw [List.nil_append] at hu
  have h1 : ∀ l : List UInt8, l.length ≤ (Nm.escL l).length := by
    intro l
    induction l with
    | nil => simp
    | cons c l ih => have := (Nm.escB_length c).2; simp only [Nm.escL, List.flatMap_cons, List.length_append, List.length_cons] at ih ⊢; omega
  have h2 : ∀ l : List (List UInt8), l.length ≤ (l.flatMap (fun x => Nm.escL x ++ [46])).length := by
    intro l
    induction l with
    | nil => simp
    | cons c l ih => simp only [List.flatMap_cons, List.length_append, List.length_cons] at ih ⊢; omega
  have h3 := h1 s.cur
  have h4 := h2 s.ls
  rw [hu]
  simp only [List.length_append]
  omega
theorem run_code (u : List UInt8) (s : Nm.St) (hr : Nm.run Nm.init u = some s) : s.wanted ≤ 3 ∧ (0 < s.wanted → s.code ≤ 99) := by
  obtain ⟨p, _, hp⟩ := Nm.inv_run u Nm.init s [] ⟨[], rfl, .inl ⟨rfl, rfl⟩⟩ hr
  rcases hp with ⟨hw, _⟩ | ⟨hw, hc, _⟩ | ⟨hw, a, a1, a2, hc, _⟩ | ⟨hw, a, b, a1, a2, b1, b2, hc, _⟩ <;> omega

theorem iterPos_eq {w : World} {k : Nat} {s : ByteArray} {p : Nat} (h : w.heap[k]? = some (.stringIter s p)) : w.iterPos k = p := by unfold World.iterPos; rw [h]
theorem heap_more {w : World} {k : Nat} {o x : Obj} (h : w.heap[k]? = some x) : (w.alloc o).heap[k]? = some x := (Below.heap_alloc w o k (Array.getElem?_eq_some_iff.1 h).1).trans h
theorem u8_cell (w : World) (x : Int) (m : UInt8) (t : TypeId) (h : x = (m.toNat : Int)) : (w.alloc (.cells #[.int .u8 x] t)).cell? ⟨w.heap.size, 0, none⟩ = some (bv m) := by
  subst h
  exact (World.cell?_alloc_mark w _ _ (0, 0) 0).trans rfl
theorem u8_mk (n : Nat) (h : n < 256) : ∃ m : UInt8, m.toNat = n ∧ UInt8.ofNat n = m := ⟨UInt8.ofNat n, by rw [UInt8.toNat_ofNat']; omega, rfl⟩
theorem c_eq (c : UInt8) (n : Nat) (hn : n < 256) : (((c.toNat : Int) == (n : Int)) = true) ↔ c = UInt8.ofNat n := by
  rw [beq_iff_eq]
  constructor
  · intro h
    apply UInt8.toNat_inj.1
    rw [UInt8.toNat_ofNat', Nat.mod_eq_of_lt hn]
    omega
  · intro h
    rw [h, UInt8.toNat_ofNat', Nat.mod_eq_of_lt hn]

/-- What comes of split. -/
def SplitEnd (t : ByteArray) (w : World) (e : Ending) (w' : World) : Prop :=
  ∃ v, e = .returned (.tuple #[v, .bool (Nm.splitO (bl t)).isSome]) ∧ OwnsS w' w.heap.size v ((Nm.splitO (bl t)).getD []) ∧ Keeps w w'
theorem SplitEnd.no {t : ByteArray} {w w' : World} (h : Nm.splitO (bl t) = none) (k : Keeps w w') : SplitEnd t w (.returned (.tuple #[.slice none 0 0, .bool false])) w' :=
  ⟨_, by rw [h]; rfl, by rw [h]; exact OwnsS.nil _ _, k⟩
theorem SplitEnd.yes {t : ByteArray} {w w' : World} {v : Value} {ls : List (List UInt8)} (h : Nm.splitO (bl t) = some ls) (ho : OwnsS w' w.heap.size v ls) (k : Keeps w w') : SplitEnd t w (.returned (.tuple #[v, .bool true])) w' :=
  ⟨_, by rw [h]; rfl, by rw [h]; exact ho, k⟩

set_option maxHeartbeats 4000000 in
theorem split_any (t : ByteArray) (w : World) (ht : t.size ≤ 1020) :
    Calls Try.prog 32 #[.string t] w fun e w' => SplitEnd t w e w' := by
  go_enter Try.func32, Try.ntmps32
  go_wp2
  go_loopw [4, 5, 6, 7] (fun vl vc vw vk wr => ∃ (s : Nm.St) (p : Nat), p ≤ t.size ∧ Nm.run Nm.init ((bl t).take p) = some s ∧ vw = .int .i64 s.wanted ∧ vk = .int .i64 s.code ∧ wr.heap[w.heap.size]? = some (.stringIter t p) ∧ OwnsS wr w.heap.size vl s.ls ∧ Owns wr w.heap.size vc s.cur ∧ Below w.heap.size w wr) (fun _ _ _ _ wr => t.size - wr.iterPos w.heap.size)
  case atStart =>
    exact ⟨Nm.init, 0, Nat.zero_le _, rfl, rfl, rfl, World.iter_heap w t 0, OwnsS.nil _ _, Owns.nil _ _, (Below.refl _ _).alloc (Nat.le_refl _) _⟩
  case round =>
    obtain ⟨s, p, hp, hrun, rfl, rfl, hit, hownS, hown, hbel⟩ := hrel
    have hpos : wr.iterPos w.heap.size = p := by unfold World.iterPos; rw [hit]
    have HP := hide hpos
    have HR := hide hrun
    have hsb := hbel.size
    have hrl := run_len _ s hrun
    have hrc := run_code _ s hrun
    have htl : ((bl t).take p).length ≤ p := List.length_take_le _ _
    have hll : s.ls.length + s.cur.length ≤ 1020 := by omega
    obtain ⟨ls, cur, wd, cd⟩ := s
    simp only at hownS hown hll hrc
    clear hpos hrun htl hrl
    by_cases hlt : p < t.size
    · have hnx := fun ty => Lib.run_next_any_at (P := Try.prog) wr w.heap.size t p ty hit hlt
      by_cases ha : t[p].toNat < 128
      · have hd := decode_ascii t p hlt ha
        rw [hd] at hnx
        clear hd
        simp only [] at hnx
        have hI1 := Lib.iterAt_heap wr w.heap.size t p (p + 1) hit
        have hO1 := hown.iterAt hit (p + 1)
        have hS1 := hownS.iterAt hit (p + 1)
        have hB1 := Lib.below_iterAt hbel (k := w.heap.size) (by omega) t (p + 1)
        have hs1 : w.heap.size ≤ (wr.iterAt w.heap.size t (p + 1)).heap.size := by rw [Lib.iterAt_size]; exact hsb
        generalize wr.iterAt w.heap.size t (p + 1) = w2 at *
        have HN := hide (run_next t p hlt _ HR.out)
        have HZ := hide (split_none t p hlt _ HR.out)
        clear hown hownS hit hbel HR
        generalize t[p] = c at *
        by_cases hw : 0 < wd
        · have hwi : (0 : Int) < (wd : Int) := by omega
          have hcd := hrc.2 hw
          by_cases hdg : Nm.digI c.toNat = true
          · have hdb := Nm.dig_bounds c hdg
            by_cases hw1 : 1 < wd
            · have E : Hid (Nm.step ⟨ls, cur, wd, cd⟩ c = some ⟨ls, cur, wd - 1, cd * 10 + (c.toNat - 48)⟩) := by
                unfold Hid; simp only [Nm.step, hdg, if_true, if_pos hw, if_pos hw1]
              have hwj : (0 : Int) < (wd : Int) - 1 := by omega
              have hw3 : (wd : Int) ≤ 3 := by omega
              go_wp2_with (go_at_call 37; refine (digit_any _ _).mono ?_; rintro e w' ⟨rfl, rfl⟩)
              go_roundw
              case rel => exact ⟨_, p + 1, by omega, by rw [HN.out, E.out], by go_num, by go_num, hI1, hS1, hO1, hB1⟩
              case measure => rw [iterPos_eq hI1, HP.out]; omega
            · obtain rfl : wd = 1 := by omega
              have hwj : ¬ (0 : Int) < 1 - 1 := by omega
              by_cases hbig : 255 < cd * 10 + (c.toNat - 48)
              · have E : Hid (Nm.splitO (bl t) = none) := HZ.out (by simp only [Nm.step, hdg, if_true, if_pos hw, if_neg hw1, if_pos (Or.inl hbig)])
                have hbi : (255 : Int) < (cd : Int) * 10 + ((c.toNat : Int) - 48) := by omega
                go_wp2_with (go_at_call 37; refine (digit_any _ _).mono ?_; rintro e w' ⟨rfl, rfl⟩)
                go_ret2
                exact SplitEnd.no E.out hB1
              · have hbi : ¬ (255 : Int) < (cd : Int) * 10 + ((c.toNat : Int) - 48) := by omega
                by_cases hpl : Nm.plainI ((cd : Int) * 10 + ((c.toNat : Int) - 48)) = true
                · have hpl' : Nm.plainI ((cd * 10 + (c.toNat - 48) : Nat) : Int) = true := by rw [show (((cd * 10 + (c.toNat - 48) : Nat)) : Int) = (cd : Int) * 10 + ((c.toNat : Int) - 48) by omega]; exact hpl
                  have E : Hid (Nm.splitO (bl t) = none) := HZ.out (by simp only [Nm.step, hdg, if_true, if_pos hw, if_neg hw1, if_pos (Or.inr hpl')])
                  clear hpl'
                  go_wp2_with (first | (go_at_call 37; refine (digit_any _ _).mono ?_; rintro e w' ⟨rfl, rfl⟩) | (go_at_call 38; refine (plain_any _ _).mono ?_; rintro e w' ⟨rfl, rfl⟩))
                  go_ret2
                  exact SplitEnd.no E.out hB1
                · have hpl' : ¬ Nm.plainI ((cd * 10 + (c.toNat - 48) : Nat) : Int) = true := by rw [show (((cd * 10 + (c.toNat - 48) : Nat)) : Int) = (cd : Int) * 10 + ((c.toNat : Int) - 48) by omega]; exact hpl
                  obtain ⟨mb, hmb, hm2⟩ := u8_mk (cd * 10 + (c.toNat - 48)) (by omega)
                  have E : Hid (Nm.step ⟨ls, cur, 1, cd⟩ c = some ⟨ls, cur ++ [mb], 0, cd * 10 + (c.toNat - 48)⟩) := by
                    unfold Hid
                    simp only [Nm.step, hdg, if_true, if_pos hw, if_neg hw1]
                    rw [if_neg (by intro h; rcases h with h | h; exact hbig h; exact hpl' h), hm2]
                  have HM := hide hmb
                  clear hmb hm2
                  simp only [Bool.not_eq_true] at hpl
                  clear hpl'
                  go_wp2_with (first | (go_at_call 37; refine (digit_any _ _).mono ?_; rintro e w' ⟨rfl, rfl⟩) | (go_at_call 38; refine (plain_any _ _).mono ?_; rintro e w' ⟨rfl, rfl⟩) | (at_builtin; refine wpList_app1 _ rfl _ _ rfl w.heap.size _ _ rfl (hO1.alloc _) _ _ mb rfl ?c1 ?c2 ?c3 ?_))
                  case c1 => have := HM.out; first | exact u8_cell _ _ _ _ (by omega) | (simp [bv]; omega)
                  case c2 => omega
                  case c3 => first | omega | (simp; omega)
                  intro v3 w3 hown3 hb3 ho3
                  have hB3 := (hB1.alloc (by omega) _).trans hb3
                  have hS3 := (hS1.alloc _).byOth ho3
                  have hI3 := ho3.iter (heap_more hI1)
                  clear hb3 ho3 hO1 hS1 hI1 hB1
                  go_wp2
                  go_roundw
                  case rel => exact ⟨_, p + 1, by omega, by rw [HN.out, E.out], by go_num, by go_num, hI3, hS3, hown3, hB3⟩
                  case measure => rw [iterPos_eq hI3, HP.out]; omega
          · have E : Hid (Nm.splitO (bl t) = none) := HZ.out (by simp only [Nm.step, if_pos hw, if_neg hdg])
            simp only [Bool.not_eq_true] at hdg
            go_wp2_with (go_at_call 37; refine (digit_any _ _).mono ?_; rintro e w' ⟨rfl, rfl⟩)
            go_ret2
            exact SplitEnd.no E.out hB1
        · obtain rfl : wd = 0 := by omega
          by_cases h92 : c = 92
          · have z : ((c.toNat : Int) == 92) = true := (c_eq c 92 (by decide)).2 h92
            have E : Hid (Nm.step ⟨ls, cur, 0, cd⟩ c = some ⟨ls, cur, 3, 0⟩) := by
              unfold Hid; simp only [Nm.step, if_neg hw, if_pos h92]
            clear h92
            go_wp2
            go_roundw
            case rel => exact ⟨_, p + 1, by omega, by rw [HN.out, E.out], by go_num, by go_num, hI1, hS1, hO1, hB1⟩
            case measure => rw [iterPos_eq hI1, HP.out]; omega
          · have z : ((c.toNat : Int) == 92) = false := by
              have := mt (c_eq c 92 (by decide)).1 h92
              simpa using this
            by_cases h46 : c = 46
            · have z2 : ((c.toNat : Int) == 46) = true := (c_eq c 46 (by decide)).2 h46
              have E : Hid (Nm.step ⟨ls, cur, 0, cd⟩ c = some ⟨ls ++ [cur], [], 0, cd⟩) := by
                unfold Hid; simp only [Nm.step, if_neg hw, if_neg h92, if_pos h46]
              have hcv := Owns.conv hO1
              clear h46 h92
              go_wp2_with (at_builtin; refine wpList_appS _ rfl _ _ rfl w.heap.size _ _ rfl (hS1.alloc _) _ _ cur rfl ?d1 ?d2 ?d3 ?_)
              case d1 => first | exact (World.cell?_alloc_mark _ _ _ (0, 0) 0).trans rfl | rfl
              case d2 => omega
              case d3 => first | omega | (simp; omega)
              intro v3 w3 hown3 hb3 ho3
              have hB3 := (hB1.alloc (by omega) _).trans hb3
              have hI3 := ho3.iter (heap_more hI1)
              clear hb3 ho3 hO1 hS1 hI1 hB1 hcv
              go_wp2
              go_roundw
              case rel => exact ⟨_, p + 1, by omega, by rw [HN.out, E.out], by go_num, by go_num, hI3, hown3, Owns.nil _ _, hB3⟩
              case measure => rw [iterPos_eq hI3, HP.out]; omega
            · have z2 : ((c.toNat : Int) == 46) = false := by
                have := mt (c_eq c 46 (by decide)).1 h46
                simpa using this
              by_cases hpl : Nm.plainI c.toNat = true
              · have E : Hid (Nm.step ⟨ls, cur, 0, cd⟩ c = some ⟨ls, cur ++ [c], 0, cd⟩) := by
                  unfold Hid; simp only [Nm.step, if_neg hw, if_neg h92, if_neg h46, if_pos hpl]
                clear h46 h92
                go_wp2_with (first | (go_at_call 38; refine (plain_any _ _).mono ?_; rintro e w' ⟨rfl, rfl⟩) | (at_builtin; refine wpList_app1 _ rfl _ _ rfl w.heap.size _ _ rfl (hO1.alloc _) _ _ c rfl ?e1 ?e2 ?e3 ?_))
                case e1 => first | exact (World.cell?_alloc_mark _ _ _ (0, 0) 0).trans rfl | rfl
                case e2 => omega
                case e3 => first | omega | (simp; omega)
                intro v3 w3 hown3 hb3 ho3
                have hB3 := (hB1.alloc (by omega) _).trans hb3
                have hS3 := (hS1.alloc _).byOth ho3
                have hI3 := ho3.iter (heap_more hI1)
                clear hb3 ho3 hO1 hS1 hI1 hB1
                go_wp2
                go_roundw
                case rel => exact ⟨_, p + 1, by omega, by rw [HN.out, E.out], by go_num, by go_num, hI3, hS3, hown3, hB3⟩
                case measure => rw [iterPos_eq hI3, HP.out]; omega
              · have E : Hid (Nm.splitO (bl t) = none) := HZ.out (by simp only [Nm.step, if_neg hw, if_neg h92, if_neg h46, if_neg hpl])
                simp only [Bool.not_eq_true] at hpl
                clear h46 h92
                go_wp2_with (go_at_call 38; refine (plain_any _ _).mono ?_; rintro e w' ⟨rfl, rfl⟩)
                go_ret2
                exact SplitEnd.no E.out hB1
      · have hd := decode_high t p hlt (by omega)
        have hB1 := Lib.below_iterAt hbel (k := w.heap.size) (by omega) t (p + (Utf8.decode t p).2)
        have hE : Nm.step ⟨ls, cur, wd, cd⟩ t[p] = none := by
          have hdg : ¬ Nm.digI t[p].toNat = true := by simp [Nm.digI]; omega
          have hpl : ¬ Nm.plainI t[p].toNat = true := by simp [Nm.plainI]; omega
          have h92 : t[p] ≠ 92 := fun e => by rw [e] at ha; simp at ha
          have h46 : t[p] ≠ 46 := fun e => by rw [e] at ha; simp at ha
          simp only [Nm.step, hdg, hpl, h92, h46, if_false]
          simp
        have E : Hid (Nm.splitO (bl t) = none) := split_none t p hlt _ HR.out hE
        generalize wr.iterAt w.heap.size t (p + (Utf8.decode t p).2) = w2 at *
        generalize Utf8.decode t p = q at *
        have hpl : Nm.plainI q.1 = false := by simp [Nm.plainI]; omega
        have hdg : Nm.digI q.1 = false := by simp [Nm.digI]; omega
        have z : ((q.1 : Int) == 92) = false := beq_eq_false_iff_ne.2 (by omega)
        have z2 : ((q.1 : Int) == 46) = false := beq_eq_false_iff_ne.2 (by omega)
        clear hown hownS hit hbel HR hE hd
        by_cases hw : (0 : Int) < (wd : Int)
        · go_wp2_with (first | (go_at_call 37; refine (digit_any _ _).mono ?_; rintro e w' ⟨rfl, rfl⟩) | (go_at_call 38; refine (plain_any _ _).mono ?_; rintro e w' ⟨rfl, rfl⟩))
          go_ret2
          exact SplitEnd.no E.out hB1
        · go_wp2_with (first | (go_at_call 37; refine (digit_any _ _).mono ?_; rintro e w' ⟨rfl, rfl⟩) | (go_at_call 38; refine (plain_any _ _).mono ?_; rintro e w' ⟨rfl, rfl⟩))
          go_ret2
          exact SplitEnd.no E.out hB1
    · have hnx := fun ty => Lib.run_next_end_at (P := Try.prog) wr w.heap.size t p ty hit hlt
      have hR : Nm.run Nm.init (bl t) = some ⟨ls, cur, wd, cd⟩ := by
        have := HR.out
        rw [List.take_of_length_le (by rw [bl_length]; omega)] at this
        exact this
      by_cases hw : (0 : Int) < (wd : Int)
      · have E : Hid (Nm.splitO (bl t) = none) := by
          unfold Hid
          rw [Nm.splitO, hR]
          simp only [Option.bind_some]
          rw [if_neg (by omega)]
        clear hR
        go_wp2
        go_ret2
        exact SplitEnd.no E.out hbel
      · have E : Hid (Nm.splitO (bl t) = some (ls ++ [cur])) := by
          unfold Hid
          rw [Nm.splitO, hR]
          simp only [Option.bind_some]
          rw [if_pos (by omega)]
        have hcv := Owns.conv hown
        clear hR hit
        go_wp2_with (at_builtin; refine wpList_appS _ rfl _ _ rfl w.heap.size _ _ rfl (hownS.alloc _) _ _ cur rfl ?f1 ?f2 ?f3 ?_)
        case f1 => first | exact (World.cell?_alloc_mark _ _ _ (0, 0) 0).trans rfl | rfl
        case f2 => omega
        case f3 => first | omega | (simp; omega)
        intro v3 w3 hown3 hb3 _
        have hB3 := (hbel.alloc (by omega) _).trans hb3
        clear hb3 hown hownS hbel hcv hnx
        go_wp2
        go_ret2
        exact SplitEnd.yes E.out hown3 hB3
end Go.Proofs.Ytedelldhkjkghaa
