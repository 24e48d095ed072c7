/- What name.appendLabel and Text answer, for every input. -/
import Derived.Test.YtedelldhkjkghaaTextWalk1
import Derived.Test.YtedelldhkjkghaaNameWalk2
namespace Go.Proofs.Ytedelldhkjkghaa
open Go.RowKit

theorem Oth.iterAt {a w : World} (h : Oth a w) {k : Nat} (hk : a.heap.size ≤ k) (s : ByteArray) (p : Nat) : Oth a (w.iterAt k s p) := by
  intro j o hj hb ho
  have hlt : j < a.heap.size := (Array.getElem?_eq_some_iff.1 hj).1
  rw [Lib.iterAt_other w k j s p (by omega)]
  exact h j o hj hb ho
theorem Owns.iterAt {w : World} {B : Nat} {v : Value} {l : List UInt8} (h : Owns w B v l) {k : Nat} {s : ByteArray} {p : Nat} (hk : w.heap[k]? = some (.stringIter s p)) (p' : Nat) : Owns (w.iterAt k s p') B v l := by
  refine ⟨h.1, ?_⟩
  rcases h.2 with hn | ⟨g, cap, cur, rfl, hB, hg, rest⟩
  · exact .inl hn
  · have hkg : g ≠ k := by
      intro e1
      rw [e1, hk] at hg
      cases hg
    exact .inr ⟨g, cap, cur, rfl, hB, (Lib.iterAt_other w k g s p' hkg).trans hg, rest⟩

theorem escL_nonplain (l : List UInt8) (h : ∀ c ∈ l, Nm.plainI c.toNat = false) : Nm.esc4L l = Nm.escL l := by
  induction l with
  | nil => rfl
  | cons c l ih =>
    simp only [Nm.esc4L, Nm.escL, List.flatMap_cons] at ih ⊢
    rw [ih (fun x hx => h x (List.mem_cons_of_mem _ hx)), Nm.escB, if_neg (by rw [h c (List.mem_cons_self ..)]; decide)]
theorem escL_append (a b : List UInt8) : Nm.escL (a ++ b) = Nm.escL a ++ Nm.escL b := by simp [Nm.escL]
theorem take_cut (l : List UInt8) (d p : Nat) (h : d ≤ p) : l.take p = l.take d ++ (l.drop d).take (p - d) := by
  rw [← List.take_add, show d + (p - d) = p by omega]
/-- What lies between two plain bytes. -/
theorem esc_between (t : ByteArray) (d p : Nat) (hdp : d ≤ p) (h : ∀ i (_ : i < t.size), d ≤ i → i < p → Nm.plainI t[i].toNat = false) :
    Nm.escL ((bl t).take d) ++ Nm.esc4L (bl (t.extract d p)) = Nm.escL ((bl t).take p) := by
  rw [take_cut (bl t) d p hdp, escL_append, bl_extract, escL_nonplain]
  intro c hc
  obtain ⟨i, hi, rfl⟩ := List.getElem_of_mem hc
  have h1 : i < p - d := by have := List.length_take_le (p - d) ((bl t).drop d); omega
  have h2 : d + i < t.size := by rw [List.length_take, List.length_drop, bl_length] at hi; omega
  rw [List.getElem_take, List.getElem_drop]
  exact h (d + i) h2 (by omega) (by omega)
theorem escL_take_plain (t : ByteArray) (p : Nat) (h : p < t.size) (hp : Nm.plainI t[p].toNat = true) : Nm.escL ((bl t).take (p + 1)) = Nm.escL ((bl t).take p) ++ [t[p]] := by
  rw [List.take_succ_eq_append_getElem (by rw [bl_length]; exact h), escL_append, bl_get t p h]
  simp [Nm.escL, Nm.escB, hp]

set_option maxHeartbeats 1000000 in
theorem appendLabel_any (v : Value) (l : List UInt8) (t : ByteArray) (B : Nat) (w : World) (hown : Owns w B v l) (hB : B ≤ w.heap.size) (hl : l.length ≤ 1099511627) (ht : t.size ≤ 1099511627) :
    Calls Try.prog 35 #[v, .string t] w fun e w' => AppEnd w B (l ++ Nm.escL (bl t)) e w' := by
  go_enter Try.func35, Try.ntmps35
  go_wp2
  go_loopw [0, 5] (fun b i wr => ∃ (d p : Nat), d ≤ p ∧ p ≤ t.size ∧ i = .int .i64 d ∧ wr.heap[w.heap.size]? = some (.stringIter t p) ∧ Owns wr B b (l ++ Nm.escL ((bl t).take d)) ∧ (∀ i (_ : i < t.size), d ≤ i → i < p → Nm.plainI t[i].toNat = false) ∧ Below B w wr ∧ Oth w wr) (fun _ _ wr => t.size - wr.iterPos w.heap.size)
  case atStart =>
    refine ⟨0, 0, Nat.le_refl _, Nat.zero_le _, rfl, World.iter_heap w t 0, ?_, fun i _ h1 h2 => by omega, (Below.refl _ _).alloc hB _, (Oth.refl _).alloc _⟩
    have h0 := hown.alloc (.stringIter t 0)
    simp only [List.take_zero, Nm.escL, List.flatMap_nil, List.append_nil]
    exact h0
  case round =>
    obtain ⟨d, p, hdp, hp, rfl, hit, hown', hnp, hbel, hoth⟩ := hrel
    have hpos : wr.iterPos w.heap.size = p := by unfold World.iterPos; rw [hit]
    have HP := hide hpos
    have HN := hide hnp
    have hsb := hbel.size
    have hel := Nm.escL_length ((bl t).take d)
    have hel2 : ((bl t).take d).length ≤ d := List.length_take_le _ _
    clear hpos hnp hown
    by_cases hlt : p < t.size
    · have hnx := fun ty => Lib.run_next_any_at (P := Try.prog) wr w.heap.size t p ty hit hlt
      by_cases ha : t[p].toNat < 128
      · have hd := decode_ascii t p hlt ha
        rw [hd] at hnx
        clear hd
        simp only [] at hnx
        have hI1 := Lib.iterAt_heap wr w.heap.size t p (p + 1) hit
        have hO1 := hown'.iterAt hit (p + 1)
        have hB1 := Lib.below_iterAt hbel (k := w.heap.size) (by omega) t (p + 1)
        have hT1 := hoth.iterAt (k := w.heap.size) (by omega) t (p + 1)
        have hs1 : (wr.iterAt w.heap.size t (p + 1)).heap.size = wr.heap.size := Lib.iterAt_size _ _ _ _
        generalize wr.iterAt w.heap.size t (p + 1) = w2 at *
        clear hown' hit hbel hoth
        by_cases hpl : Nm.plainI t[p].toNat = true
        · have E1 := hide (esc_between t d p hdp HN.out)
          have E2 := hide (escL_take_plain t p hlt hpl)
          have hi1 : (0 : Int) ≤ (d : Int) := by omega
          have hi2 : (d : Int) ≤ (p : Int) := by omega
          have hi3 : (p : Int) ≤ (t.size : Int) := by omega
          have hxs : (t.extract d p).size ≤ 1099511627776 := by rw [ByteArray.size_extract]; omega
          go_wp2_with (first | (go_at_call 38; refine (plain_any _ _).mono ?_; rintro e w' ⟨rfl, rfl⟩))
          refine (appendEscaped_any _ _ _ B _ hO1 (by omega) (by rw [List.length_append]; omega) hxs).mono ?_
          rintro e w3 ⟨v3, rfl, hown3, hb3, ho3⟩
          rw [List.append_assoc, E1.out] at hown3
          have hI3 := ho3.iter hI1
          have hB3 := hB1.trans hb3
          have hT3 := hT1.trans ho3
          have hs3 := hb3.size
          have hel3 := Nm.escL_length ((bl t).take p)
          have hel4 : ((bl t).take p).length ≤ p := List.length_take_le _ _
          clear hnx hI1 hO1 hB1 hT1 hb3 ho3
          go_wp2_with (at_builtin; refine wpList_app1 _ rfl _ _ rfl B _ _ rfl (hown3.alloc _) _ _ t[p] rfl ?c1 ?c2 ?c3 ?_)
          case c1 => first | exact (World.cell?_alloc_mark _ _ _ (0, 0) 0).trans rfl | rfl
          case c2 => rw [List.length_append]; omega
          case c3 => first | omega | (simp; omega)
          intro v4 w4 hown4 hb4 ho4
          have hB4 := (hB3.alloc (by omega) _).trans hb4
          have hT4 := (hT3.alloc _).trans ho4
          have hI4 : w4.heap[w.heap.size]? = some (.stringIter t (p + 1)) := ho4.iter ((Below.heap_alloc _ _ _ (Array.getElem?_eq_some_iff.1 hI3).1).trans hI3)
          clear hb4 ho4 hown3 hI3 hB3 hT3
          go_wp2
          go_roundw
          case rel => exact ⟨p + 1, p + 1, Nat.le_refl _, by omega, by go_num, hI4, by rw [E2.out]; exact hown4, fun i _ h1 h2 => by omega, hB4, hT4⟩
          case measure =>
            have : w4.iterPos w.heap.size = p + 1 := by unfold World.iterPos; rw [hI4]
            rw [this, HP.out]; omega
        · simp only [Bool.not_eq_true] at hpl
          have HQ : Hid (∀ i (_ : i < t.size), d ≤ i → i < p + 1 → Nm.plainI t[i].toNat = false) := fun i hi h1 h2 => by
            by_cases e : i = p
            · subst e; exact hpl
            · exact HN.out i hi h1 (by omega)
          go_wp2_with (go_at_call 38; refine (plain_any _ _).mono ?_; rintro e w' ⟨rfl, rfl⟩)
          go_roundw
          case rel => exact ⟨d, p + 1, by omega, by omega, rfl, hI1, hO1, HQ.out, hB1, hT1⟩
          case measure =>
            have : w'.iterPos w.heap.size = p + 1 := by unfold World.iterPos; rw [hI1]
            rw [this, HP.out]; omega
      · have hd := decode_high t p hlt (by omega)
        have hsp := decode_span t p hlt (by omega)
        generalize Utf8.decode t p = q at *
        have hI1 := Lib.iterAt_heap wr w.heap.size t p (p + q.2) hit
        have hO1 := hown'.iterAt hit (p + q.2)
        have hB1 := Lib.below_iterAt hbel (k := w.heap.size) (by omega) t (p + q.2)
        have hT1 := hoth.iterAt (k := w.heap.size) (by omega) t (p + q.2)
        generalize wr.iterAt w.heap.size t (p + q.2) = w2 at *
        clear hown' hit hbel hoth
        have hpl : Nm.plainI q.1 = false := by simp [Nm.plainI]; omega
        have HQ : Hid (∀ i (_ : i < t.size), d ≤ i → i < p + q.2 → Nm.plainI t[i].toNat = false) := fun i hi h1 h2 => by
          by_cases e : i < p
          · exact HN.out i hi h1 e
          · have := hsp.2 i (by omega) h2 hi
            simp [Nm.plainI]; omega
        have hsp1 := hsp.1
        have hd2 := hd.2
        clear hsp hd
        go_wp2_with (go_at_call 38; refine (plain_any _ _).mono ?_; rintro e w' ⟨rfl, rfl⟩)
        go_roundw
        case rel => exact ⟨d, p + q.2, by omega, hsp1, rfl, hI1, hO1, HQ.out, hB1, hT1⟩
        case measure =>
          have : w'.iterPos w.heap.size = p + q.2 := by unfold World.iterPos; rw [hI1]
          rw [this, HP.out]; omega
    · have hnx := fun ty => Lib.run_next_end_at (P := Try.prog) wr w.heap.size t p ty hit hlt
      have E1 := hide (esc_between t d p hdp HN.out)
      have E2 : Hid (t.extract d t.size = t.extract d p) := by unfold Hid; rw [show p = t.size by omega]
      have E3 : Hid ((bl t).take p = bl t) := List.take_of_length_le (by rw [bl_length]; omega)
      have hi1 : (0 : Int) ≤ (d : Int) := by omega
      have hi2 : (d : Int) ≤ (t.size : Int) := by omega
      have hxs : (t.extract d t.size).size ≤ 1099511627776 := by rw [ByteArray.size_extract]; omega
      clear hit
      go_wp2_with fail
      refine (appendEscaped_any _ _ _ B _ hown' (by omega) (by rw [List.length_append]; omega) hxs).mono ?_
      rintro e w3 ⟨v3, rfl, hown3, hb3, ho3⟩
      rw [List.append_assoc, E2.out, E1.out, E3.out] at hown3
      have hB3 := hbel.trans hb3
      have hT3 := hoth.trans ho3
      clear hnx hown' hbel hoth hb3 ho3
      go_wp2
      go_ret
      exact AppEnd.mk hown3 hB3 hT3

def textS (n : ByteArray) : ByteArray := if Nm.okL (bl n) = true then (if bl n = [0] then ⟨#[46]⟩ else ⟨(Nm.textL (Nm.labelsL (bl n))).toArray⟩) else ⟨#[]⟩

theorem textL_take (ls : List (List UInt8)) (j : Nat) (h : j < ls.length) : Nm.textL (ls.take (j + 1)) = Nm.textL (ls.take j) ++ (if 0 < j then [46] else []) ++ Nm.escL ls[j] := by
  rw [List.take_succ_eq_append_getElem h]
  cases j with
  | zero => simp [Nm.textL]
  | succ j =>
    cases ls with
    | nil => simp at h
    | cons x ls =>
      have h' : j < ls.length := by simpa using h
      simp only [List.take_succ_cons, List.cons_append, Nm.textL, List.flatMap_append, List.flatMap_cons, List.flatMap_nil, List.append_nil, List.getElem_cons_succ, Nat.zero_lt_succ, if_true, List.append_assoc]
      simp
theorem textL_length (ls : List (List UInt8)) : (Nm.textL ls).length ≤ 4 * (ls.map (fun x => x.length + 1)).sum := by
  cases ls with
  | nil => simp [Nm.textL]
  | cons x ls =>
    have h1 := Nm.escL_length x
    have h2 : (ls.flatMap (fun y => 46 :: Nm.escL y)).length ≤ 4 * (ls.map (fun x => x.length + 1)).sum := by
      induction ls with
      | nil => simp
      | cons y ls ih =>
        have := Nm.escL_length y
        simp only [List.flatMap_cons, List.length_append, List.length_cons, List.map_cons, List.sum_cons]
        omega
    simp only [Nm.textL, List.length_append, List.map_cons, List.sum_cons]
    omega
theorem sum_take_le (ls : List (List UInt8)) (j : Nat) : ((ls.take j).map (fun x => x.length + 1)).sum ≤ (ls.map (fun x => x.length + 1)).sum := by
  conv => rhs; rw [← List.take_append_drop j ls]
  rw [List.map_append, List.sum_append]
  omega

set_option maxHeartbeats 1000000 in
theorem text_any (n : ByteArray) (w : World) (hn : n.size ≤ maxLen) :
    Calls Try.prog 27 #[.string n] w fun e w' => e = .returned (.string (textS n)) ∧ Keeps w w' := by
  by_cases h : Nm.okL (bl n) = true
  · by_cases hr : bl n = [0]
    · have e1 : (n.toList == [0]) = true := by rw [toList_bl, hr]; rfl
      have HF : Hid (textS n = ⟨#[46]⟩) := by
        unfold Hid textS
        rw [if_pos h, if_pos hr]
      clear hr
      go_enter Try.func27, Try.ntmps27
      go_wp2_with (go_at_call 14; refine (check_any _ _ hn).mono ?_; rintro e w' ⟨rfl, rfl⟩)
      go_ret
      exact ⟨ret_str HF.out.symm, Keeps.refl _⟩
    · have e1 : (n.toList == [0]) = false := by rw [toList_bl]; simpa using hr
      have HF : Hid (textS n = ⟨(Nm.textL (Nm.labelsL (bl n))).toArray⟩) := by
        unfold Hid textS
        rw [if_pos h, if_neg hr]
      have HL : Hid (labelsOf n = Nm.labelsL (bl n)) := by simp [Hid, labelsOf, h]
      have hj := Nm.ok_join _ h
      have hsum := (Nm.join_length (Nm.labelsL (bl n))).2
      rw [hj.1] at hsum
      have h255 := ((Nm.okL_spec _).1 h).1
      have hz : 0 < (Nm.labelsL (bl n)).length := by
        have hu := Nm.up1_ok h hr
        rw [hu.2.2]; simp
      have hlen := (Nm.join_length (Nm.labelsL (bl n))).1
      rw [hj.1] at hlen
      have hsz : ∀ x ∈ Nm.labelsL (bl n), x.length ≤ 63 := fun x hx => by
        have h1 := Nm.labs_sizes ((Nm.okL_spec _).1 h).2
        rw [List.all_eq_true] at h1
        have := h1 x hx
        simp only [Nm.sizeOk, decide_eq_true_eq] at this
        exact this.2
      clear hr hj
      go_enter Try.func27, Try.ntmps27
      go_wp2_with fail
      refine (check_any _ _ hn).mono ?_
      rintro e w' ⟨rfl, hw⟩
      subst hw
      rw [h]
      go_wp2_with fail
      refine (labels_any _ _ hn).mono ?_
      rintro e w1 ⟨v, rfl, hown, k1⟩
      rw [HL.out] at hown
      generalize Nm.labelsL (bl n) = ls at *
      obtain ⟨b, off, cap, hv, hb, hc, _⟩ := (hown.read).parts hz
      subst hv
      have HC := hide hc
      have HSZ := hide hsz
      have HS := hide hsum
      clear hc hsz hsum hown
      have K1 := hide k1
      clear k1
      go_wp2
      go_loopw [3, 14] (fun v i wr => ∃ j : Nat, j ≤ ls.length ∧ i = .int .i64 j ∧ Owns wr w1.heap.size v (Nm.textL (ls.take j)) ∧ Below w1.heap.size w1 wr) (fun _ i _ => ls.length - (intOf i).toNat)
      case atStart => exact ⟨0, Nat.zero_le _, rfl, Owns.nil _ _, Below.refl _ _⟩
      case round =>
        obtain ⟨j, hj, rfl, hown, hbel⟩ := hrel
        have hsb := hbel.size
        have hl1 := textL_length (ls.take j)
        have hl2 := sum_take_le ls j
        have hl3 : (Nm.textL (ls.take j)).length ≤ 1020 := by have := HS.out; omega
        clear hl1 hl2
        by_cases hlt : j < ls.length
        · obtain ⟨X, hX⟩ : ∃ X : ByteArray, bl X = ls[j] := ⟨⟨ls[j].toArray⟩, bl_mk _⟩
          have hcell : wr.cell? ⟨b, off + j, none⟩ = some (.string X) := by
            rw [← sv_bl, hX]
            exact (hbel.cell (p := ⟨b, off + j, none⟩) hb).trans (HC.out j hlt)
          have hXm : X.size ≤ 63 := by rw [← bl_length, hX]; exact HSZ.out ls[j] (List.getElem_mem hlt)
          have HX := hide hX
          have HT := hide (textL_take ls j hlt)
          clear hX
          by_cases h0 : 0 < j
          · have HT2 : Hid (Nm.textL (ls.take (j + 1)) = Nm.textL (ls.take j) ++ [46] ++ Nm.escL ls[j]) := by have := HT.out; rw [if_pos h0] at this; exact this
            have hi0 : (0 : Int) < (j : Int) := by omega
            clear HT
            go_wp2_with (at_builtin; refine wpList_app1 _ rfl _ _ rfl w1.heap.size _ _ rfl (hown.alloc _) _ _ 46 rfl ?c1 ?c2 ?c3 ?_)
            case c1 => first | exact (World.cell?_alloc_mark _ _ _ (0, 0) 0).trans rfl | rfl
            case c2 => omega
            case c3 => first | omega | (simp; omega)
            intro v2 w2 hown2 hb2 ho2
            have hbel2 := (hbel.alloc (by omega) _).trans hb2
            have hsb2 := hbel2.size
            clear hown hb2 ho2 hbel hcell
            go_wp2_with fail
            refine (appendLabel_any _ _ _ w1.heap.size _ hown2 (by omega) (by rw [List.length_append]; simp; omega) (by omega)).mono ?_
            rintro e w3 ⟨v3, rfl, hown3, hb3, ho3⟩
            have hbel3 := hbel2.trans hb3
            clear hown2 hb3 ho3 hbel2
            go_wp2
            go_roundw
            case rel => exact ⟨j + 1, by omega, by go_num, by rw [HT2.out, ← HX.out]; exact hown3, hbel3⟩
            case measure => simp [intOf]; omega
          · obtain rfl : j = 0 := by omega
            have HT2 : Hid (Nm.textL (ls.take (0 + 1)) = Nm.textL (ls.take 0) ++ Nm.escL ls[0]) := by have := HT.out; rw [if_neg h0, List.append_nil] at this; exact this
            clear HT
            rw [Nat.add_zero] at hcell
            go_wp2_with fail
            refine (appendLabel_any _ _ X w1.heap.size _ hown (by omega) (by omega) (by omega)).mono ?_
            rintro e w3 ⟨v3, rfl, hown3, hb3, ho3⟩
            have hbel3 := hbel.trans hb3
            clear hown hb3 ho3 hbel
            go_wp2
            go_roundw
            case rel => exact ⟨0 + 1, by omega, by go_num, by rw [HT2.out, ← HX.out]; exact hown3, hbel3⟩
            case measure => simp [intOf]; omega
        · have HT : Hid (ls.take j = ls) := List.take_of_length_le (by omega)
          rw [HT.out] at hown
          have hcv := Owns.conv hown
          clear hown
          go_wp2
          go_ret
          exact ⟨ret_str HF.out.symm, K1.out.trans hbel⟩
  · have HF : Hid (textS n = ⟨#[]⟩) := by simp [textS, h, Hid]
    go_enter Try.func27, Try.ntmps27
    go_wp2_with (go_at_call 14; refine (check_any _ _ hn).mono ?_; rintro e w' ⟨rfl, rfl⟩)
    go_ret
    exact ⟨ret_str HF.out.symm, Keeps.refl _⟩
end Go.Proofs.Ytedelldhkjkghaa
