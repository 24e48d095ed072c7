/- Plain functions on bytes: how layer 4 writes a name, and that what is written is read. No condition. -/
import Derived.Test.YthoominldliphaaCompMath
import Derived.Test.YthoominldliphaaOctMath
namespace Go.Proofs.Ythoominldliphaa.Cm
open Go.Proofs.Ythoominldliphaa.Nm (lowB lowL okL lab sizeOk joinL joinOk labelsL up1 sameB inB anc)

/-- A name's ends, the longest first, but for the root. By fuel. -/
def chain : Nat → List UInt8 → List (List UInt8)
  | 0, _ => []
  | f + 1, l => if l = [0] then [] else l :: chain f (up1 l)
def ends (l : List UInt8) : List (List UInt8) := chain l.length l
/-- n with a pointer in the place of its last k bytes. -/
def cutTo (base : List UInt8) (at_ : Nat) (n : List UInt8) (k : Nat) : List UInt8 := n.take (n.length - k) ++ Oct.beL (49152 + at_ + base.length - k) 2
def wrOk (base : List UInt8) (at_ : Int) (n : List UInt8) : Bool := okL base && okL n && decide (0 ≤ at_ ∧ at_ ≤ 16000)
/-- What Write answers. -/
def wrL (base : List UInt8) (at_ : Nat) (n : List UInt8) : List UInt8 :=
  match (ends base).find? (fun e => inB n e) with
  | some e => cutTo base at_ n e.length
  | none => n

theorem chain_fuel : ∀ (f g : Nat) (l : List UInt8), okL l = true → l.length ≤ f → l.length ≤ g → chain f l = chain g l
  | 0, _, l, h, h1, _ => by have := Nm.ok_pos h; omega
  | _ + 1, 0, l, h, _, h2 => by have := Nm.ok_pos h; omega
  | f + 1, g + 1, l, h, h1, h2 => by
    simp only [chain]
    by_cases hr : l = [0]
    · rw [if_pos hr, if_pos hr]
    · have hu := Nm.up1_ok h hr
      rw [if_neg hr, if_neg hr, chain_fuel f g (up1 l) hu.1 (by omega) (by omega)]
theorem ends_root : ends [0] = [] := by simp [ends, chain]
theorem ends_step {l : List UInt8} (h : okL l = true) (hr : l ≠ [0]) : ends l = l :: ends (up1 l) := by
  have hu := Nm.up1_ok h hr
  obtain ⟨f, hf⟩ : ∃ f, l.length = f + 1 := ⟨l.length - 1, by have := Nm.ok_pos h; omega⟩
  unfold ends
  rw [hf]
  simp only [chain, if_neg hr]
  rw [chain_fuel f (up1 l).length (up1 l) hu.1 (by omega) (Nat.le_refl _)]
/-- Induction along the ends of a name. -/
theorem ends_ind {P : List UInt8 → Prop} (h0 : P [0]) (h1 : ∀ l, okL l = true → l ≠ [0] → P (up1 l) → P l) : ∀ l, okL l = true → P l := by
  intro l
  generalize hk : l.length = k
  induction k using Nat.strongRecOn generalizing l with
  | ind k ih =>
    intro h
    by_cases hr : l = [0]
    · rw [hr]; exact h0
    · have hu := Nm.up1_ok h hr
      exact h1 l h hr (ih (up1 l).length (by omega) (up1 l) rfl hu.1)
theorem lab_up {l : List UInt8} (h : okL l = true) (hr : l ≠ [0]) : ∃ x, sizeOk x = true ∧ l = lab x ++ up1 l := by
  have hk := (Nm.okL_spec l).1 h
  rcases Nm.chk_cases hk.2 with e | ⟨k, r, f', hf, rfl, h0, h63, hlt, hc⟩
  · exact absurd e hr
  · have hp := Nm.toNat_pos h0
    have hl : (r.take k.toNat).length = k.toNat := by rw [List.length_take]; omega
    refine ⟨r.take k.toNat, ?_, ?_⟩
    · simp only [sizeOk, decide_eq_true_eq, hl]; omega
    · simp only [lab, hl, up1, List.headD_cons, Nat.add_comm 1, List.drop_succ_cons, List.cons_append, List.take_append_drop]
      simp
/-- Each end stands behind whole labels. -/
theorem ends_parts : ∀ l, okL l = true → ∀ r ∈ ends l, okL r = true ∧ r ≠ [0] ∧ ∃ ls : List (List UInt8), ls.all sizeOk = true ∧ l = ls.flatMap lab ++ r := by
  refine ends_ind ?_ ?_
  · intro r hr; rw [ends_root] at hr; simp at hr
  · intro l h hr ih r hm
    rw [ends_step h hr, List.mem_cons] at hm
    rcases hm with rfl | hm
    · exact ⟨h, hr, [], rfl, rfl⟩
    · obtain ⟨h1, h2, ls, h3, h4⟩ := ih r hm
      obtain ⟨x, hx, e⟩ := lab_up h hr
      refine ⟨h1, h2, x :: ls, by rw [List.all_cons, hx, h3]; rfl, ?_⟩
      rw [e, h4, List.flatMap_cons, List.append_assoc]
theorem ends_less : ∀ l, okL l = true → (ends l).Pairwise (fun a b => b.length < a.length) ∧ ∀ r ∈ ends l, r.length ≤ l.length := by
  refine ends_ind ?_ ?_
  · rw [ends_root]; simp
  · intro l h hr ih
    have hu := Nm.up1_ok h hr
    rw [ends_step h hr, List.pairwise_cons]
    refine ⟨⟨fun r hm => ?_, ih.1⟩, fun r hm => ?_⟩
    · have := ih.2 r hm; omega
    · rw [List.mem_cons] at hm
      rcases hm with rfl | hm
      · exact Nat.le_refl _
      · have := ih.2 r hm; omega
theorem same_length {a b : List UInt8} (h : sameB a b = true) : a.length = b.length := by
  simp only [sameB, Bool.and_eq_true, beq_iff_eq] at h
  have := congrArg List.length h.2
  rwa [Nm.lowL_length, Nm.lowL_length] at this
theorem sameB_spec (a b : List UInt8) : sameB a b = true ↔ okL a = true ∧ okL b = true ∧ lowL a = lowL b := by
  simp only [sameB, Bool.and_eq_true, beq_iff_eq, and_assoc]
theorem sameB_comm (a b : List UInt8) : sameB b a = sameB a b := by
  rw [Bool.eq_iff_iff, sameB_spec, sameB_spec]
  exact ⟨fun h => ⟨h.2.1, h.1, h.2.2.symm⟩, fun h => ⟨h.2.1, h.1, h.2.2.symm⟩⟩
theorem in_same' (l z : List UInt8) (h : sameB l z = true) : inB l z = true := by
  obtain ⟨h1, h2, h3⟩ := (sameB_spec l z).1 h
  have h4 : okL (lowL l) = true := by rw [Nm.ok_low]; exact h1
  have := Nm.anc_self h4
  rw [Nm.lowL_length] at this
  simp only [inB, h1, h2, Bool.and_self, Bool.true_and, ← h3]
  exact this
theorem in_step' (l z : List UInt8) (h : okL l = true) (hr : l ≠ [0]) (hs : sameB l z = false) : inB l z = inB (up1 l) z := by
  have hu := Nm.up1_ok h hr
  by_cases hz : okL z = true
  · have hne : lowL l ≠ lowL z := fun e => by
      have := (sameB_spec l z).2 ⟨h, hz, e⟩
      rw [hs] at this; exact absurd this (by decide)
    have hl : okL (lowL l) = true := by rw [Nm.ok_low]; exact h
    have hlr : lowL l ≠ [0] := fun e => hr ((Nm.low_root l).1 e)
    have := Nm.anc_step hl hlr hne
    rw [Nm.up1_low h hr, Nm.lowL_length, Nm.lowL_length] at this
    simp only [inB, h, hz, hu.1, Bool.and_self, Bool.true_and]
    exact this
  · simp only [Bool.not_eq_true] at hz
    simp [inB, hz]
/-- A name lies in an end just if one of its own ends is the same. -/
theorem in_ends (z : List UInt8) (hz : z ≠ [0]) : ∀ l, okL l = true → inB l z = (ends l).any (fun r => sameB r z) := by
  refine ends_ind ?_ ?_
  · rw [ends_root]
    simp only [List.any_nil]
    by_cases h : okL z = true
    · have hne : lowL z ≠ [0] := fun e => hz ((Nm.low_root z).1 e)
      have h0 : okL [0] = true := rfl
      simp only [inB, h0, h, Bool.and_self, Bool.true_and]
      exact Nm.anc_root (fun e => hne e.symm)
    · simp only [Bool.not_eq_true] at h
      simp [inB, h]
  · intro l h hr ih
    rw [ends_step h hr, List.any_cons]
    cases hs : sameB l z
    · rw [in_step' l z h hr hs, ih, Bool.false_or]
    · rw [in_same' l z hs, Bool.true_or]
theorem find_max {L : List (List UInt8)} {p : List UInt8 → Bool} (hL : L.Pairwise (fun a b => b.length < a.length)) {x : List UInt8} (h : L.find? p = some x) : x ∈ L ∧ p x = true ∧ ∀ y ∈ L, p y = true → y.length ≤ x.length := by
  induction L with
  | nil => simp at h
  | cons a L ih =>
    rw [List.pairwise_cons] at hL
    rw [List.find?_cons] at h
    cases ha : p a
    · rw [ha] at h
      obtain ⟨h1, h2, h3⟩ := ih hL.2 h
      refine ⟨List.mem_cons_of_mem _ h1, h2, fun y hy hpy => ?_⟩
      rw [List.mem_cons] at hy
      rcases hy with rfl | hy
      · rw [ha] at hpy; exact absurd hpy (by decide)
      · exact h3 y hy hpy
    · rw [ha] at h
      simp at h
      subst h
      refine ⟨List.mem_cons_self .., ha, fun y hy _ => ?_⟩
      rw [List.mem_cons] at hy
      rcases hy with rfl | hy
      · exact Nat.le_refl _
      · exact Nat.le_of_lt (hL.1 y hy)

/-- The document's way: the longest end of n that an end of base is the same as. -/
def mate (base r : List UInt8) : Option (List UInt8) := (ends base).find? (fun e => sameB e r)
def wrR (base : List UInt8) (at_ : Nat) (n : List UInt8) : List UInt8 :=
  match (ends n).find? (fun r => (mate base r).isSome) with
  | some r => cutTo base at_ n r.length
  | none => n
theorem write_same (base : List UInt8) (at_ : Nat) (n : List UInt8) (hb : okL base = true) (hn : okL n = true) : wrR base at_ n = wrL base at_ n := by
  have hB := (ends_less base hb).1
  have hN := (ends_less n hn).1
  have key : ∀ e ∈ ends base, ∀ r ∈ ends n, sameB e r = true → inB n e = true ∧ (mate base r).isSome = true := by
    intro e he r hr hs
    refine ⟨?_, ?_⟩
    · rw [in_ends e (ends_parts base hb e he).2.1 n hn, List.any_eq_true]
      exact ⟨r, hr, by rw [sameB_comm]; exact hs⟩
    · simp only [mate, List.find?_isSome]
      exact ⟨e, he, hs⟩
  have back1 : ∀ e ∈ ends base, inB n e = true → ∃ r ∈ ends n, sameB e r = true := by
    intro e he hi
    rw [in_ends e (ends_parts base hb e he).2.1 n hn, List.any_eq_true] at hi
    obtain ⟨r, hr, hs⟩ := hi
    exact ⟨r, hr, by rw [sameB_comm]; exact hs⟩
  have back2 : ∀ r, (mate base r).isSome = true → ∃ e ∈ ends base, sameB e r = true := by
    intro r h
    simp only [mate, List.find?_isSome] at h
    exact h
  unfold wrR wrL
  cases h1 : (ends n).find? (fun r => (mate base r).isSome) with
  | none =>
    rw [List.find?_eq_none] at h1
    have h2 : (ends base).find? (fun e => inB n e) = none := by
      rw [List.find?_eq_none]
      intro e he hi
      obtain ⟨r, hr, hs⟩ := back1 e he hi
      exact h1 r hr (key e he r hr hs).2
    rw [h2]
  | some r =>
    obtain ⟨m1, m2, m3⟩ := find_max hN h1
    obtain ⟨e, he, hs⟩ := back2 r m2
    cases h2 : (ends base).find? (fun e => inB n e) with
    | none =>
      rw [List.find?_eq_none] at h2
      exact absurd (key e he r m1 hs).1 (h2 e he)
    | some e2 =>
      obtain ⟨q1, q2, q3⟩ := find_max hB h2
      have le1 := q3 e he (key e he r m1 hs).1
      obtain ⟨r2, hr2, hs2⟩ := back1 e2 q1 q2
      have le2 := m3 r2 hr2 (key e2 q1 r2 hr2 hs2).2
      have l1 := same_length hs
      have l2 := same_length hs2
      simp only []
      rw [show r.length = e2.length by omega]

theorem beL2 (m : Nat) : Oct.beL m 2 = [UInt8.ofNat (m / 256 % 256), UInt8.ofNat (m % 256)] := by simp [Oct.beL]
/-- How what is written looks. -/
theorem wr_forms (base : List UInt8) (at_ : Nat) (n : List UInt8) (hb : okL base = true) (hn : okL n = true) :
    wrL base at_ n = n ∨ ∃ (e r : List UInt8) (ls : List (List UInt8)), e ∈ ends base ∧ sameB e r = true ∧ ls.all sizeOk = true ∧ n = ls.flatMap lab ++ r ∧ wrL base at_ n = ls.flatMap lab ++ Oct.beL (49152 + at_ + base.length - e.length) 2 := by
  unfold wrL
  cases h2 : (ends base).find? (fun e => inB n e) with
  | none => exact .inl rfl
  | some e =>
    obtain ⟨q1, q2, _⟩ := find_max (ends_less base hb).1 h2
    rw [in_ends e (ends_parts base hb e q1).2.1 n hn, List.any_eq_true] at q2
    obtain ⟨r, hr, hs⟩ := q2
    obtain ⟨p1, p2, ls, p3, p4⟩ := ends_parts n hn r hr
    refine .inr ⟨e, r, ls, q1, by rw [sameB_comm]; exact hs, p3, p4, ?_⟩
    have hl := same_length hs
    simp only [cutTo]
    congr 1
    rw [← hl, p4, List.length_append, Nat.add_sub_cancel, List.take_append_of_le_length (Nat.le_refl _), List.take_length]
/-- What is written is read, as the same name; the bytes behind it are left. -/
theorem read_written (l base n : List UInt8) (a p : Nat) (x y : List UInt8) (hb : okL base = true) (hn : okL n = true) (ha : a ≤ 16000) (hx : l.drop a = base ++ x) (hp : a + base.length ≤ p) (hy : l.drop p = wrL base a n ++ y) :
    ∃ k, readL l p = ⟨k, p + (wrL base a n).length, 0⟩ ∧ sameB k n = true ∧ (wrL base a n).length ≤ n.length ∧ 0 < (wrL base a n).length := by
  have h255 := ((Nm.okL_spec base).1 hb).1
  have n255 := ((Nm.okL_spec n).1 hn).1
  have hn0 := Nm.ok_pos hn
  have hread : readL l p = rdm l p p 0 [] := by rw [readL, if_pos (by omega), Int.toNat_natCast]
  rcases wr_forms base a n hb hn with hw | ⟨e, r, ls, he, hs, hls, hnl, hw⟩
  · rw [hw] at hy ⊢
    refine ⟨n, ?_, (sameB_spec n n).2 ⟨hn, hn, rfl⟩, Nat.le_refl _, hn0⟩
    rw [hread, rdm_name l p 0 p [] n y hn hy (by simpa using n255)]
    simp
  · obtain ⟨e1, e2, bs, e3, e4⟩ := ends_parts base hb e he
    obtain ⟨s1, s2, s3⟩ := (sameB_spec e r).1 hs
    have hlen := same_length hs
    have hel := (ends_less base hb).2 e he
    have he3 := (Nm.up1_ok e1 e2).2.1
    have hup := Nm.ok_pos (Nm.up1_ok e1 e2).1
    have hwl : (wrL base a n).length = (ls.flatMap lab).length + 2 := by rw [hw, beL2, List.length_append]; rfl
    have hnl2 : n.length = (ls.flatMap lab).length + r.length := by rw [hnl, List.length_append]
    generalize hm : a + base.length - e.length = m at *
    have hm2 : 49152 + a + base.length - e.length = 49152 + m := by omega
    rw [hm2, beL2] at hw
    have hmb : m < 16384 := by omega
    rw [hw] at hy
    have hy2 : l.drop p = ls.flatMap lab ++ (UInt8.ofNat ((49152 + m) / 256 % 256) :: UInt8.ofNat ((49152 + m) % 256) :: y) := by rw [hy]; simp
    have st1 : rdm l p p 0 [] = rdm l (p + (ls.flatMap lab).length) p 0 (ls.flatMap lab) := by
      have := rdm_labels l p 0 ls p [] hls ⟨_, hy2⟩ (by rw [List.nil_append]; omega)
      rw [List.nil_append] at this
      exact this
    have dr : l.drop (p + (ls.flatMap lab).length) = UInt8.ofNat ((49152 + m) / 256 % 256) :: UInt8.ofNat ((49152 + m) % 256) :: y := by
      rw [← List.drop_drop, hy2, List.drop_append_of_le_length (Nat.le_refl _), List.drop_length, List.nil_append]
    have c1 : l[p + (ls.flatMap lab).length]? = some (UInt8.ofNat ((49152 + m) / 256 % 256)) := by
      have := List.getElem?_drop (xs := l) (i := p + (ls.flatMap lab).length) (j := 0)
      rw [Nat.add_zero] at this
      rw [← this, dr]; rfl
    have c2 : l[p + (ls.flatMap lab).length + 1]? = some (UInt8.ofNat ((49152 + m) % 256)) := by
      rw [← List.getElem?_drop, dr]; rfl
    have n1 : (UInt8.ofNat ((49152 + m) / 256 % 256)).toNat = 192 + m / 256 := by simp; omega
    have n2 : (UInt8.ofNat ((49152 + m) % 256)).toNat = m % 256 := by simp; omega
    have n3 : ((UInt8.ofNat ((49152 + m) / 256 % 256)).toNat - 192) * 256 + (UInt8.ofNat ((49152 + m) % 256)).toNat = m := by rw [n1, n2]; omega
    have st2 := rdm_ptr (q := p) (nx := 0) (out := ls.flatMap lab) c1 (by omega) c2 (by rw [n3]; omega)
    rw [n3, if_pos rfl] at st2
    have hdm : l.drop m = e ++ x := by
      have e5 : m = a + (bs.flatMap lab).length := by
        have := congrArg List.length e4
        rw [List.length_append] at this
        omega
      rw [e5, ← List.drop_drop, hx, e4, List.append_assoc, List.drop_append_of_le_length (Nat.le_refl _), List.drop_length, List.nil_append]
    have st3 := rdm_name l m (p + (ls.flatMap lab).length + 2) m (ls.flatMap lab) e x e1 hdm (by rw [List.length_append]; omega)
    rw [if_neg (by omega)] at st3
    refine ⟨ls.flatMap lab ++ e, ?_, ?_, by omega, by omega⟩
    · rw [hread, st1, st2, st3, hwl, Nat.add_assoc]
    · have hlow : lowL (ls.flatMap lab ++ e) = lowL n := by
        rw [hnl]
        simp only [lowL, List.map_append] at s3 ⊢
        rw [s3]
      rw [sameB_spec]
      exact ⟨by rw [← Nm.ok_low, hlow, Nm.ok_low]; exact hn, hn, hlow⟩
theorem read_whole (l b x : List UInt8) (a : Nat) (hb : okL b = true) (hx : l.drop a = b ++ x) : readL l a = ⟨b, a + b.length, 0⟩ := by
  have h255 := ((Nm.okL_spec b).1 hb).1
  rw [readL, if_pos (by omega), Int.toNat_natCast, rdm_name l a 0 a [] b x hb hx (by simpa using h255)]
  simp
end Go.Proofs.Ythoominldliphaa.Cm
