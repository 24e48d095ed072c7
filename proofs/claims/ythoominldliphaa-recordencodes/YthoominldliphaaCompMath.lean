/- Plain functions on bytes: what layer 4 reads and writes. No condition. -/
import Derived.Test.YthoominldliphaaNameMath
namespace Go.Proofs.Ythoominldliphaa.Cm
open Go.Proofs.Ythoominldliphaa.Nm (lowB lowL okL lab sizeOk joinL joinOk labelsL up1 sameB inB anc)

/-- What is read: a name, the place behind it, an error's number. -/
structure RR where
  n : List UInt8
  next : Nat
  e : Nat
  deriving DecidableEq

def bad (e : Nat) : RR := ⟨[], 0, e⟩
/-- Reads on at p; q: the lowest place begun at; nx: the place behind the first pointer (0: none yet); out: the labels read. By fuel. -/
def rd (l : List UInt8) : Nat → Nat → Nat → Nat → List UInt8 → RR
  | 0, _, _, _, _ => bad 9
  | f + 1, p, q, nx, out =>
    match l[p]? with
    | none => bad 2
    | some c =>
      if c = 0 then ⟨out ++ [0], if nx = 0 then p + 1 else nx, 0⟩
      else if c.toNat ≤ 63 then
        if p + 1 + c.toNat ≤ l.length then
          if 254 < out.length + (1 + c.toNat) then bad 3
          else rd l f (p + 1 + c.toNat) q nx (out ++ (l.drop p).take (1 + c.toNat))
        else bad 2
      else if c.toNat < 192 then bad 3
      else match l[p + 1]? with
        | none => bad 2
        | some d =>
          if q ≤ (c.toNat - 192) * 256 + d.toNat then bad 3
          else rd l f ((c.toNat - 192) * 256 + d.toNat) ((c.toNat - 192) * 256 + d.toNat) (if nx = 0 then p + 2 else nx) out
def mu (q : Nat) (out : List UInt8) : Nat := q * 256 + (255 - out.length)
def rdm (l : List UInt8) (p q nx : Nat) (out : List UInt8) : RR := rd l (mu q out + 1) p q nx out
/-- What Read answers. -/
def readL (l : List UInt8) (p : Int) : RR := if 0 ≤ p then rdm l p.toNat p.toNat 0 [] else bad 2

theorem ptr_less {m q : Nat} (h : m < q) (out : List UInt8) : mu m out < mu q out := by
  have : (m + 1) * 256 ≤ q * 256 := Nat.mul_le_mul_right _ h
  unfold mu
  omega
theorem rd_fuel (l : List UInt8) (f : Nat) : ∀ (g p q nx : Nat) (out : List UInt8), mu q out < f → mu q out < g → rd l f p q nx out = rd l g p q nx out := by
  induction f with
  | zero => intro g p q nx out h; omega
  | succ f ih =>
    intro g p q nx out h1 h2
    obtain ⟨g, rfl⟩ : ∃ g', g = g' + 1 := ⟨g - 1, by omega⟩
    simp only [rd]
    split
    · rfl
    rename_i c hc
    split
    · rfl
    split
    · split
      · split
        · rfl
        · rename_i hlen
          have hln : (out ++ (l.drop p).take (1 + c.toNat)).length = out.length + (1 + c.toNat) := by
            rw [List.length_append, List.length_take, List.length_drop]
            omega
          exact ih g _ q nx _ (by simp only [mu, hln] at *; omega) (by simp only [mu, hln] at *; omega)
      · rfl
    split
    · rfl
    split
    · rfl
    rename_i d hd
    split
    · rfl
    · have := ptr_less (m := (c.toNat - 192) * 256 + d.toNat) (q := q) (by omega) out
      exact ih g _ _ _ _ (by omega) (by omega)
theorem rdm_cut {l : List UInt8} {p q nx : Nat} {out : List UInt8} (h : l.length ≤ p) : rdm l p q nx out = bad 2 := by
  simp only [rdm, rd, List.getElem?_eq_none h]
theorem rdm_zero {l : List UInt8} {p q nx : Nat} {out : List UInt8} (h : l[p]? = some 0) : rdm l p q nx out = ⟨out ++ [0], if nx = 0 then p + 1 else nx, 0⟩ := by
  simp only [rdm, rd, h, if_true]
theorem rdm_short {l : List UInt8} {p q nx : Nat} {out : List UInt8} {c : UInt8} (h : l[p]? = some c) (h0 : c ≠ 0) (h1 : c.toNat ≤ 63) (h2 : ¬ p + 1 + c.toNat ≤ l.length) : rdm l p q nx out = bad 2 := by
  simp only [rdm, rd, h, h0, h1, h2, if_true, if_false]
theorem rdm_long {l : List UInt8} {p q nx : Nat} {out : List UInt8} {c : UInt8} (h : l[p]? = some c) (h0 : c ≠ 0) (h1 : c.toNat ≤ 63) (h2 : p + 1 + c.toNat ≤ l.length) (h3 : 254 < out.length + (1 + c.toNat)) : rdm l p q nx out = bad 3 := by
  simp only [rdm, rd, h, h0, h1, h2, h3, if_true, if_false]
theorem rdm_label {l : List UInt8} {p q nx : Nat} {out : List UInt8} {c : UInt8} (h : l[p]? = some c) (h0 : c ≠ 0) (h1 : c.toNat ≤ 63) (h2 : p + 1 + c.toNat ≤ l.length) (h3 : ¬ 254 < out.length + (1 + c.toNat)) :
    rdm l p q nx out = rdm l (p + 1 + c.toNat) q nx (out ++ (l.drop p).take (1 + c.toNat)) := by
  have hln : (out ++ (l.drop p).take (1 + c.toNat)).length = out.length + (1 + c.toNat) := by
    rw [List.length_append, List.length_take, List.length_drop]
    omega
  conv => lhs; simp only [rdm, rd, h, h0, h1, h2, h3, if_true, if_false]
  exact rd_fuel l _ _ _ _ _ _ (by simp only [mu, hln]; omega) (by omega)
theorem rdm_mid {l : List UInt8} {p q nx : Nat} {out : List UInt8} {c : UInt8} (h : l[p]? = some c) (h1 : 63 < c.toNat) (h2 : c.toNat < 192) : rdm l p q nx out = bad 3 := by
  have h0 : c ≠ 0 := fun e => by subst e; simp at h1
  have h3 : ¬ c.toNat ≤ 63 := by omega
  simp only [rdm, rd, h, h0, h3, h2, if_true, if_false]
theorem rdm_pcut {l : List UInt8} {p q nx : Nat} {out : List UInt8} {c : UInt8} (h : l[p]? = some c) (h2 : 192 ≤ c.toNat) (h3 : l.length ≤ p + 1) : rdm l p q nx out = bad 2 := by
  have h0 : c ≠ 0 := fun e => by subst e; simp at h2
  have h4 : ¬ c.toNat ≤ 63 := by omega
  have h5 : ¬ c.toNat < 192 := by omega
  simp only [rdm, rd, h, h0, h4, h5, if_false, List.getElem?_eq_none h3]
theorem rdm_pbad {l : List UInt8} {p q nx : Nat} {out : List UInt8} {c d : UInt8} (h : l[p]? = some c) (h2 : 192 ≤ c.toNat) (h3 : l[p + 1]? = some d) (h6 : q ≤ (c.toNat - 192) * 256 + d.toNat) : rdm l p q nx out = bad 3 := by
  have h0 : c ≠ 0 := fun e => by subst e; simp at h2
  have h4 : ¬ c.toNat ≤ 63 := by omega
  have h5 : ¬ c.toNat < 192 := by omega
  simp only [rdm, rd, h, h0, h4, h5, if_false, h3, h6, if_true]
theorem rdm_ptr {l : List UInt8} {p q nx : Nat} {out : List UInt8} {c d : UInt8} (h : l[p]? = some c) (h2 : 192 ≤ c.toNat) (h3 : l[p + 1]? = some d) (h6 : ¬ q ≤ (c.toNat - 192) * 256 + d.toNat) :
    rdm l p q nx out = rdm l ((c.toNat - 192) * 256 + d.toNat) ((c.toNat - 192) * 256 + d.toNat) (if nx = 0 then p + 2 else nx) out := by
  have h0 : c ≠ 0 := fun e => by subst e; simp at h2
  have h4 : ¬ c.toNat ≤ 63 := by omega
  have h5 : ¬ c.toNat < 192 := by omega
  have := ptr_less (m := (c.toNat - 192) * 256 + d.toNat) (q := q) (by omega) out
  conv => lhs; simp only [rdm, rd, h, h0, h4, h5, if_false, h3, h6]
  exact rd_fuel l _ _ _ _ _ _ (by omega) (by omega)

/-- Labels that stand one behind the other are read. -/
theorem rdm_labels (l : List UInt8) (q nx : Nat) : ∀ (ls : List (List UInt8)) (p : Nat) (out : List UInt8), ls.all sizeOk = true → (∃ r, l.drop p = ls.flatMap lab ++ r) → (out ++ ls.flatMap lab).length ≤ 254 →
    rdm l p q nx out = rdm l (p + (ls.flatMap lab).length) q nx (out ++ ls.flatMap lab)
  | [], p, out, _, _, _ => by simp
  | x :: ls, p, out, h, ⟨r, hr⟩, hl => by
    simp only [List.all_cons, Bool.and_eq_true] at h
    have hx := h.1
    simp only [sizeOk, decide_eq_true_eq] at hx
    have hof := Nm.ofNat_ne x.length hx.1 hx.2
    simp only [List.flatMap_cons, lab, List.cons_append, List.append_assoc] at hr hl
    have hlt : p < l.length := by
      rcases Nat.lt_or_ge p l.length with h' | h'
      · exact h'
      · rw [List.drop_of_length_le h'] at hr; simp at hr
    have hc : l[p]? = some (UInt8.ofNat x.length) := by
      have e1 := List.getElem?_drop (xs := l) (i := p) (j := 0)
      rw [Nat.add_zero] at e1
      rw [← e1, hr]
      rfl
    have hlen : l.length - p = 1 + x.length + (ls.flatMap lab).length + r.length := by
      rw [← List.length_drop, hr]
      simp
      omega
    have htk : (l.drop p).take (1 + x.length) = lab x := by
      rw [hr, lab, Nat.add_comm 1, List.take_succ_cons, List.take_append_of_le_length (Nat.le_refl _), List.take_length]
    have hdr : l.drop (p + 1 + x.length) = ls.flatMap lab ++ r := by
      rw [Nat.add_assoc, ← List.drop_drop, hr, Nat.add_comm 1, List.drop_succ_cons, List.drop_append_of_le_length (Nat.le_refl _), List.drop_length, List.nil_append]
    simp only [List.length_append, List.length_cons] at hl
    rw [rdm_label hc hof.1 (by rw [hof.2]; exact hx.2) (by rw [hof.2]; omega) (by rw [hof.2]; omega), hof.2, htk]
    rw [rdm_labels l q nx ls (p + 1 + x.length) (out ++ lab x) h.2 ⟨r, hdr⟩ (by simp only [lab, List.length_append, List.length_cons] at hl ⊢; omega)]
    simp only [List.flatMap_cons, List.append_assoc]
    congr 1
    simp [lab]
    omega
/-- A name that stands whole is read as it stands. -/
theorem rdm_name (l : List UInt8) (q nx p : Nat) (out b r : List UInt8) (hb : okL b = true) (hd : l.drop p = b ++ r) (hl : (out ++ b).length ≤ 255) :
    rdm l p q nx out = ⟨out ++ b, if nx = 0 then p + b.length else nx, 0⟩ := by
  obtain ⟨e, hj⟩ := Nm.ok_join b hb
  simp only [joinOk, Bool.and_eq_true] at hj
  have eb : b = (labelsL b).flatMap lab ++ [0] := e.symm
  generalize labelsL b = ls at *
  have e2 : (out ++ b).length = (out ++ ls.flatMap lab).length + 1 := by rw [eb]; simp; omega
  rw [rdm_labels l q nx ls p out hj.1 ⟨[0] ++ r, by rw [hd, eb]; simp⟩ (by omega)]
  have hz : l[p + (ls.flatMap lab).length]? = some 0 := by
    rw [← List.getElem?_drop, hd, eb, List.append_assoc, List.getElem?_append_right (Nat.le_refl _), Nat.sub_self]
    rfl
  rw [rdm_zero hz, eb]
  simp [Nat.add_assoc]

/-- What was read is of labels. -/
def Good (out : List UInt8) : Prop := ∃ ls : List (List UInt8), ls.all sizeOk = true ∧ out = ls.flatMap lab ∧ out.length ≤ 254
theorem Good.nil : Good [] := ⟨[], rfl, rfl, by simp⟩
theorem Good.ok {out : List UInt8} (h : Good out) : okL (out ++ [0]) = true := by
  obtain ⟨ls, h1, rfl, h3⟩ := h
  refine (Nm.joinOk_ok ls ?_).1
  simp only [joinOk, Bool.and_eq_true, decide_eq_true_eq]
  exact ⟨h1, by simp only [joinL, List.length_append, List.length_singleton]; omega⟩
theorem Good.snoc {out : List UInt8} (h : Good out) {l : List UInt8} {p : Nat} {c : UInt8} (hc : l[p]? = some c) (h0 : c ≠ 0) (h1 : c.toNat ≤ 63) (h2 : p + 1 + c.toNat ≤ l.length) (h3 : ¬ 254 < out.length + (1 + c.toNat)) :
    Good (out ++ (l.drop p).take (1 + c.toNat)) := by
  obtain ⟨ls, g1, g2, g3⟩ := h
  have hlt : p < l.length := by omega
  have e : (l.drop p).take (1 + c.toNat) = lab ((l.drop (p + 1)).take c.toNat) := by
    rw [List.drop_eq_getElem_cons hlt, Nat.add_comm 1, List.take_succ_cons, lab]
    have hcl : ((l.drop (p + 1)).take c.toNat).length = c.toNat := by
      rw [List.length_take, List.length_drop]; omega
    rw [hcl]
    congr 1
    rw [List.getElem?_eq_getElem hlt] at hc
    simp at hc
    rw [hc]
    simp
  have hcl : ((l.drop (p + 1)).take c.toNat).length = c.toNat := by
    rw [List.length_take, List.length_drop]; omega
  have hp := Nm.toNat_pos h0
  refine ⟨ls ++ [(l.drop (p + 1)).take c.toNat], ?_, ?_, ?_⟩
  · rw [List.all_append, g1]
    simp only [List.all_cons, List.all_nil, Bool.and_true, Bool.true_and, sizeOk, decide_eq_true_eq, hcl]
    omega
  · rw [e, g2]; simp
  · rw [List.length_append, List.length_take, List.length_drop]; omega
/-- What is read is a name, and lies within the message. -/
theorem rd_names (l : List UInt8) (s : Nat) : ∀ (f p q nx : Nat) (out : List UInt8), Good out → (nx = 0 → s ≤ p) → (nx ≠ 0 → s < nx ∧ nx ≤ l.length) →
    (rd l f p q nx out = bad 9 ∨ rd l f p q nx out = bad 2 ∨ rd l f p q nx out = bad 3 ∨ ∃ n k, rd l f p q nx out = ⟨n, k, 0⟩ ∧ okL n = true ∧ s < k ∧ k ≤ l.length)
  | 0, _, _, _, _, _, _, _ => .inl rfl
  | f + 1, p, q, nx, out, hg, h1, h2 => by
    simp only [rd]
    split
    · exact .inr (.inl rfl)
    rename_i c hc
    have hlt : p < l.length := (List.getElem?_eq_some_iff.1 hc).1
    split
    · refine .inr (.inr (.inr ⟨_, _, rfl, hg.ok, ?_⟩))
      split
      · rename_i hn
        have := h1 hn
        omega
      · rename_i hn
        exact h2 hn
    rename_i h0
    split
    · rename_i h63
      split
      · rename_i hfit
        split
        · exact .inr (.inr (.inl rfl))
        · rename_i hlen
          exact rd_names l s f _ q nx _ (hg.snoc hc h0 h63 hfit hlen) (fun hn => by have := h1 hn; omega) h2
      · exact .inr (.inl rfl)
    split
    · exact .inr (.inr (.inl rfl))
    split
    · exact .inr (.inl rfl)
    rename_i d hd
    have hlt2 : p + 1 < l.length := (List.getElem?_eq_some_iff.1 hd).1
    split
    · exact .inr (.inr (.inl rfl))
    · refine rd_names l s f _ _ _ _ hg (fun hn => ?_) (fun hn => ?_)
      · split at hn <;> omega
      · split
        · rename_i hz
          have := h1 hz
          omega
        · rename_i hz
          exact h2 hz
/-- With fuel enough it ends. -/
theorem rd_ends (l : List UInt8) (f : Nat) : ∀ (p q nx : Nat) (out : List UInt8), mu q out < f → (rd l f p q nx out).e ≠ 9 := by
  induction f with
  | zero => intro p q nx out h; omega
  | succ f ih =>
    intro p q nx out h
    simp only [rd]
    split
    · simp [bad]
    rename_i c hc
    split
    · simp
    split
    · split
      · split
        · simp [bad]
        · rename_i hlen
          have hln : (out ++ (l.drop p).take (1 + c.toNat)).length = out.length + (1 + c.toNat) := by
            rw [List.length_append, List.length_take, List.length_drop]
            omega
          exact ih _ q nx _ (by simp only [mu, hln] at *; omega)
      · simp [bad]
    split
    · simp [bad]
    split
    · simp [bad]
    rename_i d hd
    split
    · simp [bad]
    · have := ptr_less (m := (c.toNat - 192) * 256 + d.toNat) (q := q) (by omega) out
      exact ih _ _ _ _ (by omega)
theorem read_names (l : List UInt8) (p : Int) : readL l p = bad 2 ∨ readL l p = bad 3 ∨ ∃ n k, readL l p = ⟨n, k, 0⟩ ∧ okL n = true ∧ 0 ≤ p ∧ p < (k : Int) ∧ k ≤ l.length := by
  unfold readL
  split
  · rename_i h0
    have h9 := rd_ends l (mu p.toNat [] + 1) p.toNat p.toNat 0 [] (by omega)
    rcases rd_names l p.toNat (mu p.toNat [] + 1) p.toNat p.toNat 0 [] Good.nil (fun _ => Nat.le_refl _) (fun h => absurd rfl h) with h | h | h | ⟨n, k, h, h1, h2, h3⟩
    · rw [h] at h9; simp [bad] at h9
    · exact .inl h
    · exact .inr (.inl h)
    · exact .inr (.inr ⟨n, k, h, h1, h0, by omega, h3⟩)
  · exact .inl rfl
/-- What is read of a message is read of each longer one. -/
theorem rd_more (l t : List UInt8) : ∀ (f p q nx : Nat) (out : List UInt8), (rd l f p q nx out).e = 0 → rd (l ++ t) f p q nx out = rd l f p q nx out
  | 0, _, _, _, _, h => by simp [rd, bad] at h
  | f + 1, p, q, nx, out, h => by
    simp only [rd] at h ⊢
    cases hc : l[p]? with
    | none => rw [hc] at h; simp [bad] at h
    | some c =>
      have hlt : p < l.length := (List.getElem?_eq_some_iff.1 hc).1
      rw [List.getElem?_append_left hlt, hc]
      rw [hc] at h
      simp only [] at h ⊢
      by_cases h0 : c = 0
      · simp only [h0, if_true]
      simp only [h0, if_false] at h ⊢
      by_cases h63 : c.toNat ≤ 63
      · simp only [h63, if_true] at h ⊢
        by_cases hfit : p + 1 + c.toNat ≤ l.length
        · have hfit2 : p + 1 + c.toNat ≤ (l ++ t).length := by rw [List.length_append]; omega
          simp only [hfit, hfit2, if_true] at h ⊢
          by_cases hlen : 254 < out.length + (1 + c.toNat)
          · simp only [hlen, if_true, bad] at h; omega
          · simp only [hlen, if_false] at h ⊢
            have e : ((l ++ t).drop p).take (1 + c.toNat) = (l.drop p).take (1 + c.toNat) := by
              rw [List.drop_append_of_le_length (by omega), List.take_append_of_le_length (by rw [List.length_drop]; omega)]
            rw [e]
            exact rd_more l t f _ q nx _ h
        · simp only [hfit, if_false, bad] at h; omega
      · simp only [h63, if_false] at h ⊢
        by_cases hm : c.toNat < 192
        · simp only [hm, if_true, bad] at h; omega
        · simp only [hm, if_false] at h ⊢
          cases hd : l[p + 1]? with
          | none => rw [hd] at h; simp [bad] at h
          | some d =>
            have hlt2 : p + 1 < l.length := (List.getElem?_eq_some_iff.1 hd).1
            rw [List.getElem?_append_left hlt2, hd]
            rw [hd] at h
            simp only [] at h ⊢
            by_cases hq : q ≤ (c.toNat - 192) * 256 + d.toNat
            · simp only [hq, if_true, bad] at h; omega
            · simp only [hq, if_false] at h ⊢
              exact rd_more l t f _ _ _ _ h
theorem read_more (l t : List UInt8) (p : Int) (h : (readL l p).e = 0) : readL (l ++ t) p = readL l p := by
  unfold readL at h ⊢
  split
  · rename_i h0
    rw [if_pos h0] at h
    exact rd_more l t _ _ _ _ _ h
  · rfl
end Go.Proofs.Ythoominldliphaa.Cm
