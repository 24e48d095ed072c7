/- Plain functions on bytes: what layer 4 reads and writes. No condition. Plain functions on bytes: how layer 4 writes a name, and that what is written is read. No condition. What comp.follow and comp.Read answer, for every input. What the document's Read of layer 4 answers, for every input. What comp.Write answers, for every input. What the document's Write of layer 4 answers, for every input. -/
import Derived.Test.YtdlaepfnogmebaaNames
import Derived.Test.YtdlaepfnogmebaaOct
import Derived.Test.YtdlaepfnogmebaaBase
import Derived.Deep.RegionHeld3
namespace Go.Proofs.Ytdlaepfnogmebaa.Cm
open Go.Proofs.Ytdlaepfnogmebaa.Nm (lowB lowL okL lab sizeOk joinL joinOk labelsL up1 sameB inB anc)

/-- What is read: a name, the place behind it, an error's number. -/
structure RR where
  n : List UInt8
  next : Nat
  e : Nat
  deriving DecidableEq

def bad (e : Nat) : RR := ⟨[], 0, e⟩
/-- Reads on at p; q: the lowest place begun at; nx: the place behind the first pointer (0: none yet); out: the labels read. By fuel. -/
def rd (l : List UInt8) : Nat → Nat → Nat → Nat → List UInt8 → RR
  | 0, _, _, _, _ => bad 9
  | f + 1, p, q, nx, out =>
    match l[p]? with
    | none => bad 2
    | some c =>
      if c = 0 then ⟨out ++ [0], if nx = 0 then p + 1 else nx, 0⟩
      else if c.toNat ≤ 63 then
        if p + 1 + c.toNat ≤ l.length then
          if 254 < out.length + (1 + c.toNat) then bad 3
          else rd l f (p + 1 + c.toNat) q nx (out ++ (l.drop p).take (1 + c.toNat))
        else bad 2
      else if c.toNat < 192 then bad 3
      else match l[p + 1]? with
        | none => bad 2
        | some d =>
          if q ≤ (c.toNat - 192) * 256 + d.toNat then bad 3
          else rd l f ((c.toNat - 192) * 256 + d.toNat) ((c.toNat - 192) * 256 + d.toNat) (if nx = 0 then p + 2 else nx) out
def mu (q : Nat) (out : List UInt8) : Nat := q * 256 + (255 - out.length)
def rdm (l : List UInt8) (p q nx : Nat) (out : List UInt8) : RR := rd l (mu q out + 1) p q nx out
/-- What Read answers. -/
def readL (l : List UInt8) (p : Int) : RR := if 0 ≤ p then rdm l p.toNat p.toNat 0 [] else bad 2

theorem ptr_less {m q : Nat} (h : m < q) (out : List UInt8) : mu m out < mu q out := by
  have : (m + 1) * 256 ≤ q * 256 := Nat.mul_le_mul_right _ h
  unfold mu
  omega
theorem rd_fuel (l : List UInt8) (f : Nat) : ∀ (g p q nx : Nat) (out : List UInt8), mu q out < f → mu q out < g → rd l f p q nx out = rd l g p q nx out := by
  induction f with
  | zero => intro g p q nx out h; omega
  | succ f ih =>
    intro g p q nx out h1 h2
    obtain ⟨g, rfl⟩ : ∃ g', g = g' + 1 := ⟨g - 1, by omega⟩
    simp only [rd]
    split
    · rfl
    rename_i c hc
    split
    · rfl
    split
    · split
      · split
        · rfl
        · rename_i hlen
          have hln : (out ++ (l.drop p).take (1 + c.toNat)).length = out.length + (1 + c.toNat) := by
            rw [List.length_append, List.length_take, List.length_drop]
            omega
          exact ih g _ q nx _ (by simp only [mu, hln] at *; omega) (by simp only [mu, hln] at *; omega)
      · rfl
    split
    · rfl
    split
    · rfl
    rename_i d hd
    split
    · rfl
    · have := ptr_less (m := (c.toNat - 192) * 256 + d.toNat) (q := q) (by omega) out
      exact ih g _ _ _ _ (by omega) (by omega)
theorem rdm_cut {l : List UInt8} {p q nx : Nat} {out : List UInt8} (h : l.length ≤ p) : rdm l p q nx out = bad 2 := by
  simp only [rdm, rd, List.getElem?_eq_none h]
theorem rdm_zero {l : List UInt8} {p q nx : Nat} {out : List UInt8} (h : l[p]? = some 0) : rdm l p q nx out = ⟨out ++ [0], if nx = 0 then p + 1 else nx, 0⟩ := by
  simp only [rdm, rd, h, if_true]
theorem rdm_short {l : List UInt8} {p q nx : Nat} {out : List UInt8} {c : UInt8} (h : l[p]? = some c) (h0 : c ≠ 0) (h1 : c.toNat ≤ 63) (h2 : ¬ p + 1 + c.toNat ≤ l.length) : rdm l p q nx out = bad 2 := by
  simp only [rdm, rd, h, h0, h1, h2, if_true, if_false]
theorem rdm_long {l : List UInt8} {p q nx : Nat} {out : List UInt8} {c : UInt8} (h : l[p]? = some c) (h0 : c ≠ 0) (h1 : c.toNat ≤ 63) (h2 : p + 1 + c.toNat ≤ l.length) (h3 : 254 < out.length + (1 + c.toNat)) : rdm l p q nx out = bad 3 := by
  simp only [rdm, rd, h, h0, h1, h2, h3, if_true, if_false]
theorem rdm_label {l : List UInt8} {p q nx : Nat} {out : List UInt8} {c : UInt8} (h : l[p]? = some c) (h0 : c ≠ 0) (h1 : c.toNat ≤ 63) (h2 : p + 1 + c.toNat ≤ l.length) (h3 : ¬ 254 < out.length + (1 + c.toNat)) :
    rdm l p q nx out = rdm l (p + 1 + c.toNat) q nx (out ++ (l.drop p).take (1 + c.toNat)) := by
  have hln : (out ++ (l.drop p).take (1 + c.toNat)).length = out.length + (1 + c.toNat) := by
    rw [List.length_append, List.length_take, List.length_drop]
    omega
  conv => lhs; simp only [rdm, rd, h, h0, h1, h2, h3, if_true, if_false]
  exact rd_fuel l _ _ _ _ _ _ (by simp only [mu, hln]; omega) (by omega)
theorem rdm_mid {l : List UInt8} {p q nx : Nat} {out : List UInt8} {c : UInt8} (h : l[p]? = some c) (h1 : 63 < c.toNat) (h2 : c.toNat < 192) : rdm l p q nx out = bad 3 := by
  have h0 : c ≠ 0 := fun e => by subst e; simp at h1
  have h3 : ¬ c.toNat ≤ 63 := by omega
  simp only [rdm, rd, h, h0, h3, h2, if_true, if_false]
theorem rdm_pcut {l : List UInt8} {p q nx : Nat} {out : List UInt8} {c : UInt8} (h : l[p]? = some c) (h2 : 192 ≤ c.toNat) (h3 : l.length ≤ p + 1) : rdm l p q nx out = bad 2 := by
  have h0 : c ≠ 0 := fun e => by subst e; simp at h2
  have h4 : ¬ c.toNat ≤ 63 := by omega
  have h5 : ¬ c.toNat < 192 := by omega
  simp only [rdm, rd, h, h0, h4, h5, if_false, List.getElem?_eq_none h3]
theorem rdm_pbad {l : List UInt8} {p q nx : Nat} {out : List UInt8} {c d : UInt8} (h : l[p]? = some c) (h2 : 192 ≤ c.toNat) (h3 : l[p + 1]? = some d) (h6 : q ≤ (c.toNat - 192) * 256 + d.toNat) : rdm l p q nx out = bad 3 := by
  have h0 : c ≠ 0 := fun e => by subst e; simp at h2
  have h4 : ¬ c.toNat ≤ 63 := by omega
  have h5 : ¬ c.toNat < 192 := by omega
  simp only [rdm, rd, h, h0, h4, h5, if_false, h3, h6, if_true]
theorem rdm_ptr {l : List UInt8} {p q nx : Nat} {out : List UInt8} {c d : UInt8} (h : l[p]? = some c) (h2 : 192 ≤ c.toNat) (h3 : l[p + 1]? = some d) (h6 : ¬ q ≤ (c.toNat - 192) * 256 + d.toNat) :
    rdm l p q nx out = rdm l ((c.toNat - 192) * 256 + d.toNat) ((c.toNat - 192) * 256 + d.toNat) (if nx = 0 then p + 2 else nx) out := by
  have h0 : c ≠ 0 := fun e => by subst e; simp at h2
  have h4 : ¬ c.toNat ≤ 63 := by omega
  have h5 : ¬ c.toNat < 192 := by omega
  have := ptr_less (m := (c.toNat - 192) * 256 + d.toNat) (q := q) (by omega) out
  conv => lhs; simp only [rdm, rd, h, h0, h4, h5, if_false, h3, h6]
  exact rd_fuel l _ _ _ _ _ _ (by omega) (by omega)

/-- Labels that stand one behind the other are read. -/
theorem rdm_labels (l : List UInt8) (q nx : Nat) : ∀ (ls : List (List UInt8)) (p : Nat) (out : List UInt8), ls.all sizeOk = true → (∃ r, l.drop p = ls.flatMap lab ++ r) → (out ++ ls.flatMap lab).length ≤ 254 →
    rdm l p q nx out = rdm l (p + (ls.flatMap lab).length) q nx (out ++ ls.flatMap lab)
  | [], p, out, _, _, _ => by simp
  | x :: ls, p, out, h, ⟨r, hr⟩, hl => by
    simp only [List.all_cons, Bool.and_eq_true] at h
    have hx := h.1
    simp only [sizeOk, decide_eq_true_eq] at hx
    have hof := Nm.ofNat_ne x.length hx.1 hx.2
    simp only [List.flatMap_cons, lab, List.cons_append, List.append_assoc] at hr hl
    have hlt : p < l.length := by
      rcases Nat.lt_or_ge p l.length with h' | h'
      · exact h'
      · rw [List.drop_of_length_le h'] at hr; simp at hr
    have hc : l[p]? = some (UInt8.ofNat x.length) := by
      have e1 := List.getElem?_drop (xs := l) (i := p) (j := 0)
      rw [Nat.add_zero] at e1
      rw [← e1, hr]
      rfl
    have hlen : l.length - p = 1 + x.length + (ls.flatMap lab).length + r.length := by
      rw [← List.length_drop, hr]
      simp
      omega
    have htk : (l.drop p).take (1 + x.length) = lab x := by
      rw [hr, lab, Nat.add_comm 1, List.take_succ_cons, List.take_append_of_le_length (Nat.le_refl _), List.take_length]
    have hdr : l.drop (p + 1 + x.length) = ls.flatMap lab ++ r := by
      rw [Nat.add_assoc, ← List.drop_drop, hr, Nat.add_comm 1, List.drop_succ_cons, List.drop_append_of_le_length (Nat.le_refl _), List.drop_length, List.nil_append]
    simp only [List.length_append, List.length_cons] at hl
    rw [rdm_label hc hof.1 (by rw [hof.2]; exact hx.2) (by rw [hof.2]; omega) (by rw [hof.2]; omega), hof.2, htk]
    rw [rdm_labels l q nx ls (p + 1 + x.length) (out ++ lab x) h.2 ⟨r, hdr⟩ (by simp only [lab, List.length_append, List.length_cons] at hl ⊢; omega)]
    simp only [List.flatMap_cons, List.append_assoc]
    congr 1
    simp [lab]
    omega
/-- A name that stands whole is read as it stands. -/
theorem rdm_name (l : List UInt8) (q nx p : Nat) (out b r : List UInt8) (hb : okL b = true) (hd : l.drop p = b ++ r) (hl : (out ++ b).length ≤ 255) :
    rdm l p q nx out = ⟨out ++ b, if nx = 0 then p + b.length else nx, 0⟩ := by
  obtain ⟨e, hj⟩ := Nm.ok_join b hb
  simp only [joinOk, Bool.and_eq_true] at hj
  have eb : b = (labelsL b).flatMap lab ++ [0] := e.symm
  generalize labelsL b = ls at *
  have e2 : (out ++ b).length = (out ++ ls.flatMap lab).length + 1 := by rw [eb]; simp; omega
  rw [rdm_labels l q nx ls p out hj.1 ⟨[0] ++ r, by rw [hd, eb]; simp⟩ (by omega)]
  have hz : l[p + (ls.flatMap lab).length]? = some 0 := by
    rw [← List.getElem?_drop, hd, eb, List.append_assoc, List.getElem?_append_right (Nat.le_refl _), Nat.sub_self]
    rfl
  rw [rdm_zero hz, eb]
  simp [Nat.add_assoc]

/-- What was read is of labels. -/
def Good (out : List UInt8) : Prop := ∃ ls : List (List UInt8), ls.all sizeOk = true ∧ out = ls.flatMap lab ∧ out.length ≤ 254
theorem Good.nil : Good [] := ⟨[], rfl, rfl, by simp⟩
theorem Good.ok {out : List UInt8} (h : Good out) : okL (out ++ [0]) = true := by
  obtain ⟨ls, h1, rfl, h3⟩ := h
  refine (Nm.joinOk_ok ls ?_).1
  simp only [joinOk, Bool.and_eq_true, decide_eq_true_eq]
  exact ⟨h1, by simp only [joinL, List.length_append, List.length_singleton]; omega⟩
theorem Good.snoc {out : List UInt8} (h : Good out) {l : List UInt8} {p : Nat} {c : UInt8} (hc : l[p]? = some c) (h0 : c ≠ 0) (h1 : c.toNat ≤ 63) (h2 : p + 1 + c.toNat ≤ l.length) (h3 : ¬ 254 < out.length + (1 + c.toNat)) :
    Good (out ++ (l.drop p).take (1 + c.toNat)) := by
  obtain ⟨ls, g1, g2, g3⟩ := h
  have hlt : p < l.length := by omega
  have e : (l.drop p).take (1 + c.toNat) = lab ((l.drop (p + 1)).take c.toNat) := by
    rw [List.drop_eq_getElem_cons hlt, Nat.add_comm 1, List.take_succ_cons, lab]
    have hcl : ((l.drop (p + 1)).take c.toNat).length = c.toNat := by
      rw [List.length_take, List.length_drop]; omega
    rw [hcl]
    congr 1
    rw [List.getElem?_eq_getElem hlt] at hc
    simp at hc
    rw [hc]
    simp
  have hcl : ((l.drop (p + 1)).take c.toNat).length = c.toNat := by
    rw [List.length_take, List.length_drop]; omega
  have hp := Nm.toNat_pos h0
  refine ⟨ls ++ [(l.drop (p + 1)).take c.toNat], ?_, ?_, ?_⟩
  · rw [List.all_append, g1]
    simp only [List.all_cons, List.all_nil, Bool.and_true, Bool.true_and, sizeOk, decide_eq_true_eq, hcl]
    omega
  · rw [e, g2]; simp
  · rw [List.length_append, List.length_take, List.length_drop]; omega
/-- What is read is a name, and lies within the message. -/
theorem rd_names (l : List UInt8) (s : Nat) : ∀ (f p q nx : Nat) (out : List UInt8), Good out → (nx = 0 → s ≤ p) → (nx ≠ 0 → s < nx ∧ nx ≤ l.length) →
    (rd l f p q nx out = bad 9 ∨ rd l f p q nx out = bad 2 ∨ rd l f p q nx out = bad 3 ∨ ∃ n k, rd l f p q nx out = ⟨n, k, 0⟩ ∧ okL n = true ∧ s < k ∧ k ≤ l.length)
  | 0, _, _, _, _, _, _, _ => .inl rfl
  | f + 1, p, q, nx, out, hg, h1, h2 => by
    simp only [rd]
    split
    · exact .inr (.inl rfl)
    rename_i c hc
    have hlt : p < l.length := (List.getElem?_eq_some_iff.1 hc).1
    split
    · refine .inr (.inr (.inr ⟨_, _, rfl, hg.ok, ?_⟩))
      split
      · rename_i hn
        have := h1 hn
        omega
      · rename_i hn
        exact h2 hn
    rename_i h0
    split
    · rename_i h63
      split
      · rename_i hfit
        split
        · exact .inr (.inr (.inl rfl))
        · rename_i hlen
          exact rd_names l s f _ q nx _ (hg.snoc hc h0 h63 hfit hlen) (fun hn => by have := h1 hn; omega) h2
      · exact .inr (.inl rfl)
    split
    · exact .inr (.inr (.inl rfl))
    split
    · exact .inr (.inl rfl)
    rename_i d hd
    have hlt2 : p + 1 < l.length := (List.getElem?_eq_some_iff.1 hd).1
    split
    · exact .inr (.inr (.inl rfl))
    · refine rd_names l s f _ _ _ _ hg (fun hn => ?_) (fun hn => ?_)
      · split at hn <;> omega
      · split
        · rename_i hz
          have := h1 hz
          omega
        · rename_i hz
          exact h2 hz
/-- With fuel enough it ends. -/
theorem rd_ends (l : List UInt8) (f : Nat) : ∀ (p q nx : Nat) (out : List UInt8), mu q out < f → (rd l f p q nx out).e ≠ 9 := by
  induction f with
  | zero => intro p q nx out h; omega
  | succ f ih =>
    intro p q nx out h
    simp only [rd]
    split
    · simp [bad]
    rename_i c hc
    split
    · simp
    split
    · split
      · split
        · simp [bad]
        · rename_i hlen
          have hln : (out ++ (l.drop p).take (1 + c.toNat)).length = out.length + (1 + c.toNat) := by
            rw [List.length_append, List.length_take, List.length_drop]
            omega
          exact ih _ q nx _ (by simp only [mu, hln] at *; omega)
      · simp [bad]
    split
    · simp [bad]
    split
    · simp [bad]
    rename_i d hd
    split
    · simp [bad]
    · have := ptr_less (m := (c.toNat - 192) * 256 + d.toNat) (q := q) (by omega) out
      exact ih _ _ _ _ (by omega)
theorem read_names (l : List UInt8) (p : Int) : readL l p = bad 2 ∨ readL l p = bad 3 ∨ ∃ n k, readL l p = ⟨n, k, 0⟩ ∧ okL n = true ∧ 0 ≤ p ∧ p < (k : Int) ∧ k ≤ l.length := by
  unfold readL
  split
  · rename_i h0
    have h9 := rd_ends l (mu p.toNat [] + 1) p.toNat p.toNat 0 [] (by omega)
    rcases rd_names l p.toNat (mu p.toNat [] + 1) p.toNat p.toNat 0 [] Good.nil (fun _ => Nat.le_refl _) (fun h => absurd rfl h) with h | h | h | ⟨n, k, h, h1, h2, h3⟩
    · rw [h] at h9; simp [bad] at h9
    · exact .inl h
    · exact .inr (.inl h)
    · exact .inr (.inr ⟨n, k, h, h1, h0, by omega, h3⟩)
  · exact .inl rfl
/-- What is read of a message is read of each longer one. -/
theorem rd_more (l t : List UInt8) : ∀ (f p q nx : Nat) (out : List UInt8), (rd l f p q nx out).e = 0 → rd (l ++ t) f p q nx out = rd l f p q nx out
  | 0, _, _, _, _, h => by simp [rd, bad] at h
  | f + 1, p, q, nx, out, h => by
    simp only [rd] at h ⊢
    cases hc : l[p]? with
    | none => rw [hc] at h; simp [bad] at h
    | some c =>
      have hlt : p < l.length := (List.getElem?_eq_some_iff.1 hc).1
      rw [List.getElem?_append_left hlt, hc]
      rw [hc] at h
      simp only [] at h ⊢
      by_cases h0 : c = 0
      · simp only [h0, if_true]
      simp only [h0, if_false] at h ⊢
      by_cases h63 : c.toNat ≤ 63
      · simp only [h63, if_true] at h ⊢
        by_cases hfit : p + 1 + c.toNat ≤ l.length
        · have hfit2 : p + 1 + c.toNat ≤ (l ++ t).length := by rw [List.length_append]; omega
          simp only [hfit, hfit2, if_true] at h ⊢
          by_cases hlen : 254 < out.length + (1 + c.toNat)
          · simp only [hlen, if_true, bad] at h; omega
          · simp only [hlen, if_false] at h ⊢
            have e : ((l ++ t).drop p).take (1 + c.toNat) = (l.drop p).take (1 + c.toNat) := by
              rw [List.drop_append_of_le_length (by omega), List.take_append_of_le_length (by rw [List.length_drop]; omega)]
            rw [e]
            exact rd_more l t f _ q nx _ h
        · simp only [hfit, if_false, bad] at h; omega
      · simp only [h63, if_false] at h ⊢
        by_cases hm : c.toNat < 192
        · simp only [hm, if_true, bad] at h; omega
        · simp only [hm, if_false] at h ⊢
          cases hd : l[p + 1]? with
          | none => rw [hd] at h; simp [bad] at h
          | some d =>
            have hlt2 : p + 1 < l.length := (List.getElem?_eq_some_iff.1 hd).1
            rw [List.getElem?_append_left hlt2, hd]
            rw [hd] at h
            simp only [] at h ⊢
            by_cases hq : q ≤ (c.toNat - 192) * 256 + d.toNat
            · simp only [hq, if_true, bad] at h; omega
            · simp only [hq, if_false] at h ⊢
              exact rd_more l t f _ _ _ _ h
theorem read_more (l t : List UInt8) (p : Int) (h : (readL l p).e = 0) : readL (l ++ t) p = readL l p := by
  unfold readL at h ⊢
  split
  · rename_i h0
    rw [if_pos h0] at h
    exact rd_more l t _ _ _ _ _ h
  · rfl
end Go.Proofs.Ytdlaepfnogmebaa.Cm

namespace Go.Proofs.Ytdlaepfnogmebaa.Cm
open Go.Proofs.Ytdlaepfnogmebaa.Nm (lowB lowL okL lab sizeOk joinL joinOk labelsL up1 sameB inB anc)

/-- A name's ends, the longest first, but for the root. By fuel. -/
def chain : Nat → List UInt8 → List (List UInt8)
  | 0, _ => []
  | f + 1, l => if l = [0] then [] else l :: chain f (up1 l)
def ends (l : List UInt8) : List (List UInt8) := chain l.length l
/-- n with a pointer in the place of its last k bytes. -/
def cutTo (base : List UInt8) (at_ : Nat) (n : List UInt8) (k : Nat) : List UInt8 := n.take (n.length - k) ++ Oct.beL (49152 + at_ + base.length - k) 2
def wrOk (base : List UInt8) (at_ : Int) (n : List UInt8) : Bool := okL base && okL n && decide (0 ≤ at_ ∧ at_ ≤ 16000)
/-- What Write answers. -/
def wrL (base : List UInt8) (at_ : Nat) (n : List UInt8) : List UInt8 :=
  match (ends base).find? (fun e => inB n e) with
  | some e => cutTo base at_ n e.length
  | none => n

theorem chain_fuel : ∀ (f g : Nat) (l : List UInt8), okL l = true → l.length ≤ f → l.length ≤ g → chain f l = chain g l
  | 0, _, l, h, h1, _ => by have := Nm.ok_pos h; omega
  | _ + 1, 0, l, h, _, h2 => by have := Nm.ok_pos h; omega
  | f + 1, g + 1, l, h, h1, h2 => by
    simp only [chain]
    by_cases hr : l = [0]
    · rw [if_pos hr, if_pos hr]
    · have hu := Nm.up1_ok h hr
      rw [if_neg hr, if_neg hr, chain_fuel f g (up1 l) hu.1 (by omega) (by omega)]
theorem ends_root : ends [0] = [] := by simp [ends, chain]
theorem ends_step {l : List UInt8} (h : okL l = true) (hr : l ≠ [0]) : ends l = l :: ends (up1 l) := by
  have hu := Nm.up1_ok h hr
  obtain ⟨f, hf⟩ : ∃ f, l.length = f + 1 := ⟨l.length - 1, by have := Nm.ok_pos h; omega⟩
  unfold ends
  rw [hf]
  simp only [chain, if_neg hr]
  rw [chain_fuel f (up1 l).length (up1 l) hu.1 (by omega) (Nat.le_refl _)]
/-- Induction along the ends of a name. -/
theorem ends_ind {P : List UInt8 → Prop} (h0 : P [0]) (h1 : ∀ l, okL l = true → l ≠ [0] → P (up1 l) → P l) : ∀ l, okL l = true → P l := by
  intro l
  generalize hk : l.length = k
  induction k using Nat.strongRecOn generalizing l with
  | ind k ih =>
    intro h
    by_cases hr : l = [0]
    · rw [hr]; exact h0
    · have hu := Nm.up1_ok h hr
      exact h1 l h hr (ih (up1 l).length (by omega) (up1 l) rfl hu.1)
theorem lab_up {l : List UInt8} (h : okL l = true) (hr : l ≠ [0]) : ∃ x, sizeOk x = true ∧ l = lab x ++ up1 l := by
  have hk := (Nm.okL_spec l).1 h
  rcases Nm.chk_cases hk.2 with e | ⟨k, r, f', hf, rfl, h0, h63, hlt, hc⟩
  · exact absurd e hr
  · have hp := Nm.toNat_pos h0
    have hl : (r.take k.toNat).length = k.toNat := by rw [List.length_take]; omega
    refine ⟨r.take k.toNat, ?_, ?_⟩
    · simp only [sizeOk, decide_eq_true_eq, hl]; omega
    · simp only [lab, hl, up1, List.headD_cons, Nat.add_comm 1, List.drop_succ_cons, List.cons_append, List.take_append_drop]
      simp
/-- Each end stands behind whole labels. -/
theorem ends_parts : ∀ l, okL l = true → ∀ r ∈ ends l, okL r = true ∧ r ≠ [0] ∧ ∃ ls : List (List UInt8), ls.all sizeOk = true ∧ l = ls.flatMap lab ++ r := by
  refine ends_ind ?_ ?_
  · intro r hr; rw [ends_root] at hr; simp at hr
  · intro l h hr ih r hm
    rw [ends_step h hr, List.mem_cons] at hm
    rcases hm with rfl | hm
    · exact ⟨h, hr, [], rfl, rfl⟩
    · obtain ⟨h1, h2, ls, h3, h4⟩ := ih r hm
      obtain ⟨x, hx, e⟩ := lab_up h hr
      refine ⟨h1, h2, x :: ls, by rw [List.all_cons, hx, h3]; rfl, ?_⟩
      rw [e, h4, List.flatMap_cons, List.append_assoc]
theorem ends_less : ∀ l, okL l = true → (ends l).Pairwise (fun a b => b.length < a.length) ∧ ∀ r ∈ ends l, r.length ≤ l.length := by
  refine ends_ind ?_ ?_
  · rw [ends_root]; simp
  · intro l h hr ih
    have hu := Nm.up1_ok h hr
    rw [ends_step h hr, List.pairwise_cons]
    refine ⟨⟨fun r hm => ?_, ih.1⟩, fun r hm => ?_⟩
    · have := ih.2 r hm; omega
    · rw [List.mem_cons] at hm
      rcases hm with rfl | hm
      · exact Nat.le_refl _
      · have := ih.2 r hm; omega
theorem same_length {a b : List UInt8} (h : sameB a b = true) : a.length = b.length := by
  simp only [sameB, Bool.and_eq_true, beq_iff_eq] at h
  have := congrArg List.length h.2
  rwa [Nm.lowL_length, Nm.lowL_length] at this
theorem sameB_spec (a b : List UInt8) : sameB a b = true ↔ okL a = true ∧ okL b = true ∧ lowL a = lowL b := by
  simp only [sameB, Bool.and_eq_true, beq_iff_eq, and_assoc]
theorem sameB_comm (a b : List UInt8) : sameB b a = sameB a b := by
  rw [Bool.eq_iff_iff, sameB_spec, sameB_spec]
  exact ⟨fun h => ⟨h.2.1, h.1, h.2.2.symm⟩, fun h => ⟨h.2.1, h.1, h.2.2.symm⟩⟩
theorem in_same' (l z : List UInt8) (h : sameB l z = true) : inB l z = true := by
  obtain ⟨h1, h2, h3⟩ := (sameB_spec l z).1 h
  have h4 : okL (lowL l) = true := by rw [Nm.ok_low]; exact h1
  have := Nm.anc_self h4
  rw [Nm.lowL_length] at this
  simp only [inB, h1, h2, Bool.and_self, Bool.true_and, ← h3]
  exact this
theorem in_step' (l z : List UInt8) (h : okL l = true) (hr : l ≠ [0]) (hs : sameB l z = false) : inB l z = inB (up1 l) z := by
  have hu := Nm.up1_ok h hr
  by_cases hz : okL z = true
  · have hne : lowL l ≠ lowL z := fun e => by
      have := (sameB_spec l z).2 ⟨h, hz, e⟩
      rw [hs] at this; exact absurd this (by decide)
    have hl : okL (lowL l) = true := by rw [Nm.ok_low]; exact h
    have hlr : lowL l ≠ [0] := fun e => hr ((Nm.low_root l).1 e)
    have := Nm.anc_step hl hlr hne
    rw [Nm.up1_low h hr, Nm.lowL_length, Nm.lowL_length] at this
    simp only [inB, h, hz, hu.1, Bool.and_self, Bool.true_and]
    exact this
  · simp only [Bool.not_eq_true] at hz
    simp [inB, hz]
/-- A name lies in an end just if one of its own ends is the same. -/
theorem in_ends (z : List UInt8) (hz : z ≠ [0]) : ∀ l, okL l = true → inB l z = (ends l).any (fun r => sameB r z) := by
  refine ends_ind ?_ ?_
  · rw [ends_root]
    simp only [List.any_nil]
    by_cases h : okL z = true
    · have hne : lowL z ≠ [0] := fun e => hz ((Nm.low_root z).1 e)
      have h0 : okL [0] = true := rfl
      simp only [inB, h0, h, Bool.and_self, Bool.true_and]
      exact Nm.anc_root (fun e => hne e.symm)
    · simp only [Bool.not_eq_true] at h
      simp [inB, h]
  · intro l h hr ih
    rw [ends_step h hr, List.any_cons]
    cases hs : sameB l z
    · rw [in_step' l z h hr hs, ih, Bool.false_or]
    · rw [in_same' l z hs, Bool.true_or]
theorem find_max {L : List (List UInt8)} {p : List UInt8 → Bool} (hL : L.Pairwise (fun a b => b.length < a.length)) {x : List UInt8} (h : L.find? p = some x) : x ∈ L ∧ p x = true ∧ ∀ y ∈ L, p y = true → y.length ≤ x.length := by
  induction L with
  | nil => simp at h
  | cons a L ih =>
    rw [List.pairwise_cons] at hL
    rw [List.find?_cons] at h
    cases ha : p a
    · rw [ha] at h
      obtain ⟨h1, h2, h3⟩ := ih hL.2 h
      refine ⟨List.mem_cons_of_mem _ h1, h2, fun y hy hpy => ?_⟩
      rw [List.mem_cons] at hy
      rcases hy with rfl | hy
      · rw [ha] at hpy; exact absurd hpy (by decide)
      · exact h3 y hy hpy
    · rw [ha] at h
      simp at h
      subst h
      refine ⟨List.mem_cons_self .., ha, fun y hy _ => ?_⟩
      rw [List.mem_cons] at hy
      rcases hy with rfl | hy
      · exact Nat.le_refl _
      · exact Nat.le_of_lt (hL.1 y hy)

/-- The document's way: the longest end of n that an end of base is the same as. -/
def mate (base r : List UInt8) : Option (List UInt8) := (ends base).find? (fun e => sameB e r)
def wrR (base : List UInt8) (at_ : Nat) (n : List UInt8) : List UInt8 :=
  match (ends n).find? (fun r => (mate base r).isSome) with
  | some r => cutTo base at_ n r.length
  | none => n
theorem write_same (base : List UInt8) (at_ : Nat) (n : List UInt8) (hb : okL base = true) (hn : okL n = true) : wrR base at_ n = wrL base at_ n := by
  have hB := (ends_less base hb).1
  have hN := (ends_less n hn).1
  have key : ∀ e ∈ ends base, ∀ r ∈ ends n, sameB e r = true → inB n e = true ∧ (mate base r).isSome = true := by
    intro e he r hr hs
    refine ⟨?_, ?_⟩
    · rw [in_ends e (ends_parts base hb e he).2.1 n hn, List.any_eq_true]
      exact ⟨r, hr, by rw [sameB_comm]; exact hs⟩
    · simp only [mate, List.find?_isSome]
      exact ⟨e, he, hs⟩
  have back1 : ∀ e ∈ ends base, inB n e = true → ∃ r ∈ ends n, sameB e r = true := by
    intro e he hi
    rw [in_ends e (ends_parts base hb e he).2.1 n hn, List.any_eq_true] at hi
    obtain ⟨r, hr, hs⟩ := hi
    exact ⟨r, hr, by rw [sameB_comm]; exact hs⟩
  have back2 : ∀ r, (mate base r).isSome = true → ∃ e ∈ ends base, sameB e r = true := by
    intro r h
    simp only [mate, List.find?_isSome] at h
    exact h
  unfold wrR wrL
  cases h1 : (ends n).find? (fun r => (mate base r).isSome) with
  | none =>
    rw [List.find?_eq_none] at h1
    have h2 : (ends base).find? (fun e => inB n e) = none := by
      rw [List.find?_eq_none]
      intro e he hi
      obtain ⟨r, hr, hs⟩ := back1 e he hi
      exact h1 r hr (key e he r hr hs).2
    rw [h2]
  | some r =>
    obtain ⟨m1, m2, m3⟩ := find_max hN h1
    obtain ⟨e, he, hs⟩ := back2 r m2
    cases h2 : (ends base).find? (fun e => inB n e) with
    | none =>
      rw [List.find?_eq_none] at h2
      exact absurd (key e he r m1 hs).1 (h2 e he)
    | some e2 =>
      obtain ⟨q1, q2, q3⟩ := find_max hB h2
      have le1 := q3 e he (key e he r m1 hs).1
      obtain ⟨r2, hr2, hs2⟩ := back1 e2 q1 q2
      have le2 := m3 r2 hr2 (key e2 q1 r2 hr2 hs2).2
      have l1 := same_length hs
      have l2 := same_length hs2
      simp only []
      rw [show r.length = e2.length by omega]

theorem beL2 (m : Nat) : Oct.beL m 2 = [UInt8.ofNat (m / 256 % 256), UInt8.ofNat (m % 256)] := by simp [Oct.beL]
/-- How what is written looks. -/
theorem wr_forms (base : List UInt8) (at_ : Nat) (n : List UInt8) (hb : okL base = true) (hn : okL n = true) :
    wrL base at_ n = n ∨ ∃ (e r : List UInt8) (ls : List (List UInt8)), e ∈ ends base ∧ sameB e r = true ∧ ls.all sizeOk = true ∧ n = ls.flatMap lab ++ r ∧ wrL base at_ n = ls.flatMap lab ++ Oct.beL (49152 + at_ + base.length - e.length) 2 := by
  unfold wrL
  cases h2 : (ends base).find? (fun e => inB n e) with
  | none => exact .inl rfl
  | some e =>
    obtain ⟨q1, q2, _⟩ := find_max (ends_less base hb).1 h2
    rw [in_ends e (ends_parts base hb e q1).2.1 n hn, List.any_eq_true] at q2
    obtain ⟨r, hr, hs⟩ := q2
    obtain ⟨p1, p2, ls, p3, p4⟩ := ends_parts n hn r hr
    refine .inr ⟨e, r, ls, q1, by rw [sameB_comm]; exact hs, p3, p4, ?_⟩
    have hl := same_length hs
    simp only [cutTo]
    congr 1
    rw [← hl, p4, List.length_append, Nat.add_sub_cancel, List.take_append_of_le_length (Nat.le_refl _), List.take_length]
/-- What is written is read, as the same name; the bytes behind it are left. -/
theorem read_written (l base n : List UInt8) (a p : Nat) (x y : List UInt8) (hb : okL base = true) (hn : okL n = true) (ha : a ≤ 16000) (hx : l.drop a = base ++ x) (hp : a + base.length ≤ p) (hy : l.drop p = wrL base a n ++ y) :
    ∃ k, readL l p = ⟨k, p + (wrL base a n).length, 0⟩ ∧ sameB k n = true ∧ (wrL base a n).length ≤ n.length ∧ 0 < (wrL base a n).length := by
  have h255 := ((Nm.okL_spec base).1 hb).1
  have n255 := ((Nm.okL_spec n).1 hn).1
  have hn0 := Nm.ok_pos hn
  have hread : readL l p = rdm l p p 0 [] := by rw [readL, if_pos (by omega), Int.toNat_natCast]
  rcases wr_forms base a n hb hn with hw | ⟨e, r, ls, he, hs, hls, hnl, hw⟩
  · rw [hw] at hy ⊢
    refine ⟨n, ?_, (sameB_spec n n).2 ⟨hn, hn, rfl⟩, Nat.le_refl _, hn0⟩
    rw [hread, rdm_name l p 0 p [] n y hn hy (by simpa using n255)]
    simp
  · obtain ⟨e1, e2, bs, e3, e4⟩ := ends_parts base hb e he
    obtain ⟨s1, s2, s3⟩ := (sameB_spec e r).1 hs
    have hlen := same_length hs
    have hel := (ends_less base hb).2 e he
    have he3 := (Nm.up1_ok e1 e2).2.1
    have hup := Nm.ok_pos (Nm.up1_ok e1 e2).1
    have hwl : (wrL base a n).length = (ls.flatMap lab).length + 2 := by rw [hw, beL2, List.length_append]; rfl
    have hnl2 : n.length = (ls.flatMap lab).length + r.length := by rw [hnl, List.length_append]
    generalize hm : a + base.length - e.length = m at *
    have hm2 : 49152 + a + base.length - e.length = 49152 + m := by omega
    rw [hm2, beL2] at hw
    have hmb : m < 16384 := by omega
    rw [hw] at hy
    have hy2 : l.drop p = ls.flatMap lab ++ (UInt8.ofNat ((49152 + m) / 256 % 256) :: UInt8.ofNat ((49152 + m) % 256) :: y) := by rw [hy]; simp
    have st1 : rdm l p p 0 [] = rdm l (p + (ls.flatMap lab).length) p 0 (ls.flatMap lab) := by
      have := rdm_labels l p 0 ls p [] hls ⟨_, hy2⟩ (by rw [List.nil_append]; omega)
      rw [List.nil_append] at this
      exact this
    have dr : l.drop (p + (ls.flatMap lab).length) = UInt8.ofNat ((49152 + m) / 256 % 256) :: UInt8.ofNat ((49152 + m) % 256) :: y := by
      rw [← List.drop_drop, hy2, List.drop_append_of_le_length (Nat.le_refl _), List.drop_length, List.nil_append]
    have c1 : l[p + (ls.flatMap lab).length]? = some (UInt8.ofNat ((49152 + m) / 256 % 256)) := by
      have := List.getElem?_drop (xs := l) (i := p + (ls.flatMap lab).length) (j := 0)
      rw [Nat.add_zero] at this
      rw [← this, dr]; rfl
    have c2 : l[p + (ls.flatMap lab).length + 1]? = some (UInt8.ofNat ((49152 + m) % 256)) := by
      rw [← List.getElem?_drop, dr]; rfl
    have n1 : (UInt8.ofNat ((49152 + m) / 256 % 256)).toNat = 192 + m / 256 := by simp; omega
    have n2 : (UInt8.ofNat ((49152 + m) % 256)).toNat = m % 256 := by simp; omega
    have n3 : ((UInt8.ofNat ((49152 + m) / 256 % 256)).toNat - 192) * 256 + (UInt8.ofNat ((49152 + m) % 256)).toNat = m := by rw [n1, n2]; omega
    have st2 := rdm_ptr (q := p) (nx := 0) (out := ls.flatMap lab) c1 (by omega) c2 (by rw [n3]; omega)
    rw [n3, if_pos rfl] at st2
    have hdm : l.drop m = e ++ x := by
      have e5 : m = a + (bs.flatMap lab).length := by
        have := congrArg List.length e4
        rw [List.length_append] at this
        omega
      rw [e5, ← List.drop_drop, hx, e4, List.append_assoc, List.drop_append_of_le_length (Nat.le_refl _), List.drop_length, List.nil_append]
    have st3 := rdm_name l m (p + (ls.flatMap lab).length + 2) m (ls.flatMap lab) e x e1 hdm (by rw [List.length_append]; omega)
    rw [if_neg (by omega)] at st3
    refine ⟨ls.flatMap lab ++ e, ?_, ?_, by omega, by omega⟩
    · rw [hread, st1, st2, st3, hwl, Nat.add_assoc]
    · have hlow : lowL (ls.flatMap lab ++ e) = lowL n := by
        rw [hnl]
        simp only [lowL, List.map_append] at s3 ⊢
        rw [s3]
      rw [sameB_spec]
      exact ⟨by rw [← Nm.ok_low, hlow, Nm.ok_low]; exact hn, hn, hlow⟩
theorem read_whole (l b x : List UInt8) (a : Nat) (hb : okL b = true) (hx : l.drop a = b ++ x) : readL l a = ⟨b, a + b.length, 0⟩ := by
  have h255 := ((Nm.okL_spec b).1 hb).1
  rw [readL, if_pos (by omega), Int.toNat_natCast, rdm_name l a 0 a [] b x hb hx (by simpa using h255)]
  simp
end Go.Proofs.Ytdlaepfnogmebaa.Cm

namespace Go.Proofs.Ytdlaepfnogmebaa
open Go.RowKit

theorem ret_str_int_int {a b : ByteArray} {c d e f : Int} (h : a = b) (g : c = d) (k : e = f) : Ending.returned (.tuple #[.string a, .int .i64 c, .int .i64 e]) = .returned (.tuple #[.string b, .int .i64 d, .int .i64 f]) := by rw [h, g, k]

theorem takeS_bl (s : ByteArray) (p k : Nat) (h : p + k ≤ s.size) : Oct.takeOk s p k = true ∧ bl (Oct.takeS s p k) = ((bl s).drop p).take k := by
  have h1 : Oct.takeOk s p k = true := by rw [Oct.takeOk_spec]; omega
  refine ⟨h1, ?_⟩
  rw [Oct.takeS_yes _ _ _ h1, bl_extract]
  congr 1
  omega
theorem takeNo (s : ByteArray) (p k : Nat) (h : ¬ p + k ≤ s.size) : Oct.takeOk s p k = false := by
  rw [← Bool.not_eq_true, Oct.takeOk_spec]; omega
theorem get1 (s : ByteArray) (p : Nat) (h : p < s.size) : Oct.getOk s p 1 = true ∧ Oct.getN s p 1 = (s[p].toNat : Int) := by
  obtain ⟨h1, h2⟩ := takeS_bl s p 1 (by omega)
  have h3 : Oct.getOk s p 1 = true := by rw [Oct.getOk_spec]; exact ⟨by omega, h1⟩
  refine ⟨h3, ?_⟩
  rw [Oct.getN, if_pos h3]
  show Oct.numL (bl (Oct.takeS s p (1 : Nat))) = _
  rw [h2, bl_drop s p h]
  simp [Oct.numL]
theorem get1_no (s : ByteArray) (p : Int) (h : p < 0 ∨ (s.size : Int) ≤ p) : Oct.getOk s p 1 = false := by
  rw [← Bool.not_eq_true, Oct.getOk_spec, Oct.takeOk_spec]; omega
theorem get2 (s : ByteArray) (p : Nat) (h : p + 1 < s.size) : Oct.getOk s p 2 = true ∧ Oct.getN s p 2 = (s[p].toNat : Int) * 256 + (s[p + 1].toNat : Int) := by
  obtain ⟨h1, h2⟩ := takeS_bl s p 2 (by omega)
  have h3 : Oct.getOk s p 2 = true := by rw [Oct.getOk_spec]; exact ⟨by omega, h1⟩
  refine ⟨h3, ?_⟩
  rw [Oct.getN, if_pos h3]
  show Oct.numL (bl (Oct.takeS s p (2 : Nat))) = _
  rw [h2, bl_drop s p (by omega), bl_drop s (p + 1) h]
  simp [Oct.numL]
  omega
theorem get2_no (s : ByteArray) (p : Nat) (h : s.size ≤ p + 1) : Oct.getOk s p 2 = false := by
  rw [← Bool.not_eq_true, Oct.getOk_spec, Oct.takeOk_spec]; omega
theorem bl_at (s : ByteArray) (p : Nat) (h : p < s.size) : (bl s)[p]? = some s[p] := by
  rw [List.getElem?_eq_getElem (by rw [bl_length]; exact h)]; rfl

theorem bl_append (a b : ByteArray) : bl (a ++ b) = bl a ++ bl b := by simp [bl]
theorem cat_mk (a b : List UInt8) : (⟨a.toArray⟩ : ByteArray) ++ ⟨b.toArray⟩ = ⟨(a ++ b).toArray⟩ := by
  apply bl_inj
  rw [bl_append, bl_mk, bl_mk, bl_mk]
theorem take1 (s : ByteArray) (p c : Nat) (h : p + 1 + c ≤ s.size) : Oct.takeOk s p (1 + (c : Int)) = true ∧ bl (Oct.takeS s p (1 + (c : Int))) = ((bl s).drop p).take (1 + c) ∧ (Oct.takeS s p (1 + (c : Int))).size = 1 + c := by
  have h1 := takeS_bl s p (1 + c) (by omega)
  rw [Int.natCast_add] at h1
  refine ⟨h1.1, h1.2, ?_⟩
  rw [← bl_length]
  show (bl (Oct.takeS s p (((1 : Nat) : Int) + (c : Int)))).length = _
  rw [h1.2, List.length_take, List.length_drop, bl_length]
  omega
theorem take1_no (s : ByteArray) (p c : Nat) (h : ¬ p + 1 + c ≤ s.size) : Oct.takeOk s p (1 + (c : Int)) = false := by
  rw [← Bool.not_eq_true, Oct.takeOk_spec]; omega

theorem follow_cut (s : ByteArray) (p : Nat) (q : Int) (w : World) (hs : s.size ≤ maxLen) (hp : s.size ≤ p + 1) (hp2 : (p : Int) ≤ 9223372036854775807) :
    Calls Try.prog 148 #[.string s, .int .i64 p, .int .i64 q] w fun e w' => e = .returned (.tuple #[.int .i64 0, .int .i64 2]) ∧ w' = w := by
  have h1 := get2_no s p hp
  go_enter Try.func148, Try.ntmps148
  go_wp2_with (go_at_call 84; refine (get_any _ _ _ _ hs hp2).mono ?_; rintro e w' ⟨rfl, rfl⟩)
  go_ret2
  exact ⟨rfl, rfl⟩
theorem follow_bad (s : ByteArray) (p q m : Nat) (w : World) (hs : s.size ≤ maxLen) (hp : p + 1 < s.size) (hm : ((s[p].toNat : Int) * 256 + (s[p + 1].toNat : Int)) = 49152 + m) (hq : q ≤ m) :
    Calls Try.prog 148 #[.string s, .int .i64 p, .int .i64 q] w fun e w' => e = .returned (.tuple #[.int .i64 0, .int .i64 3]) ∧ w' = w := by
  obtain ⟨h1, h2⟩ := get2 s p hp
  have hc := UInt8.toNat_lt s[p]
  have hd := UInt8.toNat_lt s[p + 1]
  rw [hm] at h2
  have hs' := hs
  unfold maxLen at hs'
  go_enter Try.func148, Try.ntmps148
  go_wp2_with (go_at_call 84; refine (get_any _ _ _ _ hs (by omega)).mono ?_; rintro e w' ⟨rfl, rfl⟩)
  go_ret2
  exact ⟨rfl, rfl⟩
theorem follow_ok (s : ByteArray) (p q m : Nat) (w : World) (hs : s.size ≤ maxLen) (hp : p + 1 < s.size) (hm : ((s[p].toNat : Int) * 256 + (s[p + 1].toNat : Int)) = 49152 + m) (hq : ¬ q ≤ m) :
    Calls Try.prog 148 #[.string s, .int .i64 p, .int .i64 q] w fun e w' => e = .returned (.tuple #[.int .i64 m, .int .i64 0]) ∧ w' = w := by
  obtain ⟨h1, h2⟩ := get2 s p hp
  have hc := UInt8.toNat_lt s[p]
  have hd := UInt8.toNat_lt s[p + 1]
  have hm2 : m ≤ 65535 := by omega
  rw [hm] at h2
  have hq2 : ¬ (q : Int) ≤ Oct.getN s p 2 - 49152 := by omega
  have hb2 := Oct.getN_bound s p 2
  have H2 := hide h2
  clear hm h2
  have hs' := hs
  unfold maxLen at hs'
  go_enter Try.func148, Try.ntmps148
  go_wp2_with (go_at_call 84; refine (get_any _ _ _ _ hs (by omega)).mono ?_; rintro e w' ⟨rfl, rfl⟩)
  go_ret2
  have e1 : Oct.getN s p 2 - 49152 = (m : Int) := by have := H2.out; omega
  exact ⟨by rw [← e1]; rfl, rfl⟩

/-- A slice's length. -/
def slLen : Value → Nat | .slice _ n _ => n | _ => 0
def rrS (r : Cm.RR) : ByteArray := ⟨r.n.toArray⟩

theorem read_neg (s : ByteArray) (p : Int) (w : World) (hs : s.size ≤ maxLen) (hp : p < 0) :
    Calls Try.prog 145 #[.string s, .int .i64 p] w fun e w' => e = .returned (.tuple #[.string ⟨#[]⟩, .int .i64 0, .int .i64 2]) ∧ Keeps w w' := by
  have h1 := get1_no s p (.inl hp)
  go_enter Try.func145, Try.ntmps145
  go_wp2
  go_step3
  go_wp2
  go_step3
  go_wp2
  refine wp_loop_rounds 1 ?_
  rw [rounds_succ]
  go_wp2_with (go_at_call 84; refine (get_any _ _ _ _ hs (by omega)).mono ?_; rintro e w' ⟨rfl, rfl⟩)
  rw [Exit.noGoto_ret]
  go_ret3
  exact ⟨rfl, Keeps.refl _⟩

def RdRel (s : ByteArray) (w : World) (R : Cm.RR) (a b q nx : Value) (wr : World) : Prop :=
  ∃ (p q' nx' : Nat) (out : List UInt8), a = .int .i64 p ∧ q = .int .i64 q' ∧ nx = .int .i64 nx' ∧ Owns wr w.heap.size b out ∧ out.length ≤ 254 ∧ (p : Int) ≤ 9223372036854775807 ∧ nx' ≤ s.size ∧ R = Cm.rdm (bl s) p q' nx' out ∧ Below w.heap.size w wr
theorem RdRel.mk {s : ByteArray} {w wr : World} {R : Cm.RR} {b : Value} (p q nx : Nat) (out : List UInt8) (h1 : Owns wr w.heap.size b out) (h2 : out.length ≤ 254) (h3 : (p : Int) ≤ 9223372036854775807) (h4 : nx ≤ s.size) (h5 : R = Cm.rdm (bl s) p q nx out) (h6 : Below w.heap.size w wr) :
    RdRel s w R (.int .i64 p) b (.int .i64 q) (.int .i64 nx) wr := ⟨p, q, nx, out, rfl, rfl, rfl, h1, h2, h3, h4, h5, h6⟩
def rdMu (b q : Value) : Nat := (intOf q).toNat * 256 + (255 - slLen b)
theorem slLen_owns {w : World} {B : Nat} {v : Value} {l : List UInt8} (h : Owns w B v l) : slLen v = l.length := by
  obtain ⟨a, cap, rfl⟩ := h.form
  rfl

set_option maxHeartbeats 2000000 in
set_option maxRecDepth 100000 in
theorem read_nat (s : ByteArray) (p0 : Nat) (R : Cm.RR) (w : World) (hs : s.size ≤ maxLen) (hp0 : (p0 : Int) ≤ 9223372036854775807) (hR : Hid (R = Cm.rdm (bl s) p0 p0 0 [])) :
    Calls Try.prog 145 #[.string s, .int .i64 p0] w fun e w' => e = .returned (.tuple #[.string (rrS R), .int .i64 R.next, .int .i64 R.e]) ∧ Keeps w w' := by
  have hs' := hs
  unfold maxLen at hs'
  go_enter Try.func145, Try.ntmps145
  go_wp2
  go_step3
  go_wp2
  go_step3
  go_wp2
  go_loopw [1, 7, 8, 9] (fun a b q nx wr => RdRel s w R a b q nx wr) (fun _ b q _ _ => rdMu b q)
  case atStart => exact RdRel.mk p0 p0 0 [] (Owns.nil _ _) (by simp) hp0 (by omega) hR.out (Below.refl _ _)
  case round =>
    obtain ⟨p, q, nx, out, rfl, rfl, rfl, hown, hlen, hp, hnx, hrd, hbel⟩ := hrel
    have HR := hide hrd
    clear hrd
    have hsb := hbel.size
    have HM := hide (slLen_owns hown)
    by_cases hlt : p < s.size
    · obtain ⟨g1, g2⟩ := get1 s p hlt
      have hat := bl_at s p hlt
      have hc := UInt8.toNat_lt s[p]
      generalize hcd : s[p] = c at *
      have HCD := hide hcd
      clear hcd
      by_cases h0 : c = 0
      · have g3 : Oct.getN s p 1 = 0 := by rw [g2, h0]; rfl
        have HF : Hid (R = ⟨out ++ [0], if nx = 0 then p + 1 else nx, 0⟩) := by
          unfold Hid; rw [HR.out]; exact Cm.rdm_zero (by rw [hat, h0])
        have hcv := Owns.conv hown
        clear g2 h0 hat
        by_cases hz : nx = 0
        · rw [if_pos hz] at HF
          have hz2 : (nx : Int) = 0 := by omega
          go_wp2_with (go_at_call 84; refine (get_any _ _ _ _ hs hp).mono ?_; rintro e w' ⟨rfl, rfl⟩)
          rw [Exit.noGoto_ret]
          go_ret3
          exact ⟨by rw [HF.out]; exact ret_str_int_int (cat_mk out [0]) (by simp) rfl, hbel⟩
        · rw [if_neg hz] at HF
          have hz2 : ((nx : Int) == 0) = false := by simp; omega
          go_wp2_with (go_at_call 84; refine (get_any _ _ _ _ hs hp).mono ?_; rintro e w' ⟨rfl, rfl⟩)
          rw [Exit.noGoto_ret]
          go_ret3
          exact ⟨by rw [HF.out]; exact ret_str_int_int (cat_mk out [0]) rfl rfl, hbel⟩
      · have hpos := Nm.toNat_pos h0
        have hz : ((c.toNat : Int) == 0) = false := by simp; omega
        have HAT := hide hat
        clear hat
        by_cases h63 : (c.toNat : Int) ≤ 63
        · by_cases hfit : p + 1 + c.toNat ≤ s.size
          · obtain ⟨t1, t2, t3⟩ := take1 s p c.toNat hfit
            have HT2 := hide t2
            clear t2
            by_cases hlong : 254 < out.length + (1 + c.toNat)
            · have HF : Hid (R = Cm.bad 3) := by
                unfold Hid; rw [HR.out]; exact Cm.rdm_long HAT.out h0 (by omega) (by rw [bl_length]; exact hfit) hlong
              clear h0
              go_wp2_with (first | (go_at_call 84; refine (get_any _ _ _ _ hs hp).mono ?_; rintro e w' ⟨rfl, rfl⟩) | (go_at_call 118; refine (take_any _ _ _ _ hs hp).mono ?_; rintro e w' ⟨rfl, rfl⟩) | (at_builtin; refine wpList_appStr _ rfl _ _ rfl w.heap.size _ _ rfl hown (Oct.takeS s p (1 + (c.toNat : Int))) rfl ?e12 ?e13 ?_))
              case e12 => rw [t3]; omega
              case e13 => exact hsb
              intro v' w2 hown' hb' _
              have hbel' := hbel.trans hb'
              have hln := Owns.len hown'
              have hll : ((out ++ (Oct.takeS s p (1 + (c.toNat : Int))).data.toList).length : Int) = out.length + (1 + c.toNat) := by
                rw [List.length_append]
                show ((out.length + (bl (Oct.takeS s p (1 + (c.toNat : Int)))).length : Nat) : Int) = _
                rw [bl_length, t3]; omega
              rw [hll] at hln
              have HM2 := hide (slLen_owns hown')
              clear hb' hown hbel hll
              go_wp2
              rw [Exit.noGoto_ret]
              go_ret3
              exact ⟨by rw [HF.out]; rfl, hbel'⟩
            · have HF : Hid (R = Cm.rdm (bl s) (p + 1 + c.toNat) q nx (out ++ ((bl s).drop p).take (1 + c.toNat))) := by
                unfold Hid; rw [HR.out]; exact Cm.rdm_label HAT.out h0 (by omega) (by rw [bl_length]; exact hfit) hlong
              clear h0
              go_wp2_with (first | (go_at_call 84; refine (get_any _ _ _ _ hs hp).mono ?_; rintro e w' ⟨rfl, rfl⟩) | (go_at_call 118; refine (take_any _ _ _ _ hs hp).mono ?_; rintro e w' ⟨rfl, rfl⟩) | (at_builtin; refine wpList_appStr _ rfl _ _ rfl w.heap.size _ _ rfl hown (Oct.takeS s p (1 + (c.toNat : Int))) rfl ?e22 ?e23 ?_))
              case e22 => rw [t3]; omega
              case e23 => exact hsb
              intro v' w2 hown' hb' _
              have hbel' := hbel.trans hb'
              have hln := Owns.len hown'
              have hll : ((out ++ (Oct.takeS s p (1 + (c.toNat : Int))).data.toList).length : Int) = out.length + (1 + c.toNat) := by
                rw [List.length_append]
                show ((out.length + (bl (Oct.takeS s p (1 + (c.toNat : Int)))).length : Nat) : Int) = _
                rw [bl_length, t3]; omega
              rw [hll] at hln
              have HM2 := hide (slLen_owns hown')
              clear hb' hown hbel hll
              go_wp2
              go_roundw
              case rel =>
                have e1 : ((p : Int) + (1 + (c.toNat : Int))) = ((p + 1 + c.toNat : Nat) : Int) := by omega
                have e2 : (Oct.takeS s p (1 + (c.toNat : Int))).data.toList = ((bl s).drop p).take (1 + c.toNat) := HT2.out
                rw [e2] at hown'
                rw [e1]
                refine RdRel.mk _ _ _ _ hown' ?_ (by omega) hnx HF.out hbel'
                rw [List.length_append, List.length_take, List.length_drop]
                omega
              case measure =>
                have e2 : (Oct.takeS s p (1 + (c.toNat : Int))).data.toList.length = 1 + c.toNat := by rw [← t3]; exact bl_length _
                have h1 := HM.out
                have h2 := HM2.out
                rw [List.length_append, e2] at h2
                simp only [rdMu, h1, h2]
                omega
          · have HF : Hid (R = Cm.bad 2) := by
              unfold Hid; rw [HR.out]; exact Cm.rdm_short HAT.out h0 (by omega) (by rw [bl_length]; exact hfit)
            have t1 := take1_no s p c.toNat hfit
            clear h0
            go_wp2_with (first | (go_at_call 84; refine (get_any _ _ _ _ hs hp).mono ?_; rintro e w' ⟨rfl, rfl⟩) | (go_at_call 118; refine (take_any _ _ _ _ hs hp).mono ?_; rintro e w' ⟨rfl, rfl⟩))
            rw [Exit.noGoto_ret]
            go_ret3
            exact ⟨by rw [HF.out]; rfl, hbel⟩
        · clear h0
          by_cases h192 : (c.toNat : Int) < 192
          · have HF : Hid (R = Cm.bad 3) := by
              unfold Hid; rw [HR.out]; exact Cm.rdm_mid HAT.out (by omega) (by omega)
            go_wp2_with (go_at_call 84; refine (get_any _ _ _ _ hs hp).mono ?_; rintro e w' ⟨rfl, rfl⟩)
            rw [Exit.noGoto_ret]
            go_ret3
            exact ⟨by rw [HF.out]; rfl, hbel⟩
          · by_cases hcut : p + 1 < s.size
            · have hd := UInt8.toNat_lt s[p + 1]
              have hat2 := bl_at s (p + 1) hcut
              have hm : ((s[p].toNat : Int) * 256 + (s[p + 1].toNat : Int)) = 49152 + (((c.toNat - 192) * 256 + s[p + 1].toNat : Nat) : Int) := by rw [HCD.out]; omega
              by_cases hq : q ≤ (c.toNat - 192) * 256 + s[p + 1].toNat
              · have HF : Hid (R = Cm.bad 3) := by
                  unfold Hid; rw [HR.out]; exact Cm.rdm_pbad HAT.out (by omega) hat2 hq
                have HC := hide (fun w => follow_bad s p q _ w hs hcut hm hq)
                clear hq hm hat2
                go_wp2_with (first | (go_at_call 84; refine (get_any _ _ _ _ hs hp).mono ?_; rintro e w' ⟨rfl, rfl⟩) | (go_at_call 148; refine (HC.out _).mono ?_; rintro e w' ⟨rfl, rfl⟩))
                rw [Exit.noGoto_ret]
                go_ret3
                exact ⟨by rw [HF.out]; rfl, hbel⟩
              · have HF : Hid (R = Cm.rdm (bl s) ((c.toNat - 192) * 256 + s[p + 1].toNat) ((c.toNat - 192) * 256 + s[p + 1].toNat) (if nx = 0 then p + 2 else nx) out) := by
                  unfold Hid; rw [HR.out]; exact Cm.rdm_ptr HAT.out (by omega) hat2 hq
                have HC := hide (fun w => follow_ok s p q _ w hs hcut hm hq)
                generalize (c.toNat - 192) * 256 + s[p + 1].toNat = m at *
                have hm2 : (m : Int) ≤ 65535 := by have := UInt8.toNat_lt s[p]; omega
                clear hm hat2
                by_cases hz : nx = 0
                · rw [if_pos hz] at HF
                  have hz2 : (nx : Int) = 0 := by omega
                  go_wp2_with (first | (go_at_call 84; refine (get_any _ _ _ _ hs hp).mono ?_; rintro e w' ⟨rfl, rfl⟩) | (go_at_call 148; refine (HC.out _).mono ?_; rintro e w' ⟨rfl, rfl⟩))
                  go_roundw
                  case rel => exact RdRel.mk m m (p + 2) out hown hlen (by omega) (by omega) HF.out hbel
                  case measure => simp only [rdMu, intOf, HM.out]; omega
                · rw [if_neg hz] at HF
                  have hz2 : ((nx : Int) == 0) = false := by simp; omega
                  go_wp2_with (first | (go_at_call 84; refine (get_any _ _ _ _ hs hp).mono ?_; rintro e w' ⟨rfl, rfl⟩) | (go_at_call 148; refine (HC.out _).mono ?_; rintro e w' ⟨rfl, rfl⟩))
                  go_roundw
                  case rel => exact RdRel.mk m m nx out hown hlen (by omega) hnx HF.out hbel
                  case measure => simp only [rdMu, intOf, HM.out]; omega
            · have HF : Hid (R = Cm.bad 2) := by
                unfold Hid; rw [HR.out]; exact Cm.rdm_pcut HAT.out (by omega) (by rw [bl_length]; omega)
              have HC := hide (fun w => follow_cut s p q w hs (by omega) hp)
              go_wp2_with (first | (go_at_call 84; refine (get_any _ _ _ _ hs hp).mono ?_; rintro e w' ⟨rfl, rfl⟩) | (go_at_call 148; refine (HC.out _).mono ?_; rintro e w' ⟨rfl, rfl⟩))
              rw [Exit.noGoto_ret]
              go_ret3
              exact ⟨by rw [HF.out]; rfl, hbel⟩
    · have g1 := get1_no s p (.inr (by omega))
      have HF : Hid (R = Cm.bad 2) := by
        unfold Hid; rw [HR.out]; exact Cm.rdm_cut (by rw [bl_length]; omega)
      go_wp2_with (go_at_call 84; refine (get_any _ _ _ _ hs hp).mono ?_; rintro e w' ⟨rfl, rfl⟩)
      rw [Exit.noGoto_ret]
      go_ret3
      exact ⟨by rw [HF.out]; rfl, hbel⟩

theorem read_any (s : ByteArray) (p : Int) (w : World) (hs : s.size ≤ maxLen) (hp : p ≤ 9223372036854775807) :
    Calls Try.prog 145 #[.string s, .int .i64 p] w fun e w' => e = .returned (.tuple #[.string (rrS (Cm.readL (bl s) p)), .int .i64 (Cm.readL (bl s) p).next, .int .i64 (Cm.readL (bl s) p).e]) ∧ Keeps w w' := by
  by_cases h : 0 ≤ p
  · obtain ⟨n, rfl⟩ := Int.eq_ofNat_of_zero_le h
    exact read_nat s n _ w hs hp (hide (by rw [Cm.readL, if_pos h, Int.toNat_natCast]))
  · rw [Cm.readL, if_neg h]
    exact read_neg s p w hs (by omega)
end Go.Proofs.Ytdlaepfnogmebaa

namespace Go.Proofs.Ytdlaepfnogmebaa
open Go.RowKit

theorem bad_any (e : Int) (w : World) : Calls Try.prog 136 #[.int .i64 e] w fun x w' => x = .returned (.tuple #[.string ⟨#[]⟩, .int .i64 0, .int .i64 e]) ∧ w' = w := by
  go_enter Try.func136, Try.ntmps136
  go_wp2
  go_ret3
  exact ⟨rfl, rfl⟩

def nxI (nx : Nat) : Int := if nx = 0 then -1 else nx
def RfRel (s : ByteArray) (R : Cm.RR) (a o nx q : Value) : Prop :=
  ∃ (p q' nx' : Nat) (O : ByteArray), a = .int .i64 p ∧ q = .int .i64 q' ∧ nx = .int .i64 (nxI nx') ∧ o = .string O ∧ O.size ≤ 254 ∧ (p : Int) ≤ 9223372036854775807 ∧ nx' ≤ s.size ∧ R = Cm.rdm (bl s) p q' nx' (bl O)
theorem RfRel.mk {s : ByteArray} {R : Cm.RR} (p q nx : Nat) (O : ByteArray) (h2 : O.size ≤ 254) (h3 : (p : Int) ≤ 9223372036854775807) (h4 : nx ≤ s.size) (h5 : R = Cm.rdm (bl s) p q nx (bl O)) :
    RfRel s R (.int .i64 p) (.string O) (.int .i64 (nxI nx)) (.int .i64 q) := ⟨p, q, nx, O, rfl, rfl, rfl, rfl, h2, h3, h4, h5⟩
def rfMu (o q : Value) : Nat := (intOf q).toNat * 256 + (255 - (strOf o).size)

set_option maxHeartbeats 2000000 in
set_option maxRecDepth 100000 in
theorem refread_nat (s : ByteArray) (p0 : Nat) (R : Cm.RR) (w : World) (hs : s.size ≤ maxLen) (hp0 : (p0 : Int) ≤ 9223372036854775807) (hR : Hid (R = Cm.rdm (bl s) p0 p0 0 [])) :
    Calls Try.prog 124 #[.string s, .int .i64 p0] w fun e w' => e = .returned (.tuple #[.string (rrS R), .int .i64 R.next, .int .i64 R.e]) ∧ w' = w := by
  have hs' := hs
  unfold maxLen at hs'
  go_enter Try.func124, Try.ntmps124
  go_wp2
  go_loop [1, 7, 8, 9] (fun a o nx q => RfRel s R a o nx q) (fun _ o _ q => rfMu o q)
  case atStart => exact RfRel.mk p0 p0 0 ⟨#[]⟩ (by decide) hp0 (by omega) hR.out
  case round =>
    obtain ⟨p, q, nx, O, rfl, rfl, rfl, rfl, hlen, hp, hnx, hrd⟩ := hrel
    have HR := hide hrd
    clear hrd
    by_cases hlt : p < s.size
    · obtain ⟨g1, g2⟩ := get1 s p hlt
      have hat := bl_at s p hlt
      have hc := UInt8.toNat_lt s[p]
      generalize hcd : s[p] = c at *
      have HCD := hide hcd
      clear hcd
      by_cases h0 : c = 0
      · have g3 : Oct.getN s p 1 = 0 := by rw [g2, h0]; rfl
        have HF : Hid (R = ⟨bl O ++ [0], if nx = 0 then p + 1 else nx, 0⟩) := by
          unfold Hid; rw [HR.out]; exact Cm.rdm_zero (by rw [hat, h0])
        have HO : Hid (O ++ ⟨#[0]⟩ = ⟨(bl O ++ [0]).toArray⟩) := by
          unfold Hid; apply bl_inj; rw [bl_append, bl_mk]; rfl
        clear g2 h0 hat
        by_cases hz : nx = 0
        · rw [if_pos hz] at HF
          have hz2 : nxI nx = -1 := if_pos hz
          go_wp2_with (go_at_call 85; refine (refget_any _ _ _ _ hs hp).mono ?_; rintro e w' ⟨rfl, rfl⟩)
          go_ret3
          exact ⟨by rw [HF.out]; exact ret_str_int_int HO.out (by simp) rfl, rfl⟩
        · rw [if_neg hz] at HF
          have hz2 : nxI nx = nx := if_neg hz
          go_wp2_with (go_at_call 85; refine (refget_any _ _ _ _ hs hp).mono ?_; rintro e w' ⟨rfl, rfl⟩)
          go_ret3
          exact ⟨by rw [HF.out]; exact ret_str_int_int HO.out rfl rfl, rfl⟩
      · have hpos := Nm.toNat_pos h0
        have hz : ((c.toNat : Int) == 0) = false := by simp; omega
        have HAT := hide hat
        clear hat
        by_cases h63 : (c.toNat : Int) ≤ 63
        · by_cases hfit : p + 1 + c.toNat ≤ s.size
          · obtain ⟨t1, t2, t3⟩ := take1 s p c.toNat hfit
            have t4 := t1
            rw [Int.add_comm] at t2 t3 t4
            have HT2 := hide t2
            clear t1 t2
            have hsz : (O ++ Oct.takeS s p ((c.toNat : Int) + 1)).size = O.size + (1 + c.toNat) := by rw [ByteArray.size_append, t3]
            have HSZ := hide hsz
            by_cases hlong : 254 < (bl O).length + (1 + c.toNat)
            · have HF : Hid (R = Cm.bad 3) := by
                unfold Hid; rw [HR.out]; exact Cm.rdm_long HAT.out h0 (by omega) (by rw [bl_length]; exact hfit) hlong
              rw [bl_length] at hlong
              clear h0
              go_wp2_with (first | (go_at_call 85; refine (refget_any _ _ _ _ hs hp).mono ?_; rintro e w' ⟨rfl, rfl⟩) | (go_at_call 119; refine (reftake_any _ _ _ _ hs hp).mono ?_; rintro e w' ⟨rfl, rfl⟩) | (go_at_call 136; refine (bad_any _ _).mono ?_; rintro e w' ⟨rfl, rfl⟩))
              go_ret3
              exact ⟨by rw [HF.out]; rfl, rfl⟩
            · have HF : Hid (R = Cm.rdm (bl s) (p + 1 + c.toNat) q nx (bl O ++ ((bl s).drop p).take (1 + c.toNat))) := by
                unfold Hid; rw [HR.out]; exact Cm.rdm_label HAT.out h0 (by omega) (by rw [bl_length]; exact hfit) hlong
              rw [bl_length] at hlong
              clear h0
              go_wp2_with (first | (go_at_call 85; refine (refget_any _ _ _ _ hs hp).mono ?_; rintro e w' ⟨rfl, rfl⟩) | (go_at_call 119; refine (reftake_any _ _ _ _ hs hp).mono ?_; rintro e w' ⟨rfl, rfl⟩))
              go_round
              case rel =>
                have e1 : ((p : Int) + (c.toNat : Int) + 1) = ((p + 1 + c.toNat : Nat) : Int) := by omega
                rw [e1]
                refine RfRel.mk _ _ _ _ (by rw [HSZ.out]; omega) (by omega) hnx ?_
                rw [bl_append, HT2.out]
                exact HF.out
              case measure =>
                simp only [rfMu, strOf, HSZ.out]
                omega
          · have HF : Hid (R = Cm.bad 2) := by
              unfold Hid; rw [HR.out]; exact Cm.rdm_short HAT.out h0 (by omega) (by rw [bl_length]; exact hfit)
            have t1 := take1_no s p c.toNat hfit
            rw [Int.add_comm] at t1
            clear h0
            go_wp2_with (first | (go_at_call 85; refine (refget_any _ _ _ _ hs hp).mono ?_; rintro e w' ⟨rfl, rfl⟩) | (go_at_call 119; refine (reftake_any _ _ _ _ hs hp).mono ?_; rintro e w' ⟨rfl, rfl⟩) | (go_at_call 136; refine (bad_any _ _).mono ?_; rintro e w' ⟨rfl, rfl⟩))
            go_ret3
            exact ⟨by rw [HF.out]; rfl, rfl⟩
        · clear h0
          by_cases h192 : (192 : Int) ≤ c.toNat
          · by_cases hcut : p + 1 < s.size
            · have hd := UInt8.toNat_lt s[p + 1]
              have hat2 := bl_at s (p + 1) hcut
              obtain ⟨k1, k2⟩ := get2 s p hcut
              have hm : Oct.getN s p 2 = 49152 + (((c.toNat - 192) * 256 + s[p + 1].toNat : Nat) : Int) := by rw [k2, HCD.out]; omega
              clear k2
              by_cases hq : q ≤ (c.toNat - 192) * 256 + s[p + 1].toNat
              · have HF : Hid (R = Cm.bad 3) := by
                  unfold Hid; rw [HR.out]; exact Cm.rdm_pbad HAT.out (by omega) hat2 hq
                generalize (c.toNat - 192) * 256 + s[p + 1].toNat = m at *
                have hm2 := Oct.getN_bound s p 2
                have hq2 : (q : Int) ≤ Oct.getN s p 2 - 49152 := by omega
                have HM := hide hm
                clear hm hat2
                go_wp2_with (first | (go_at_call 85; refine (refget_any _ _ _ _ hs hp).mono ?_; rintro e w' ⟨rfl, rfl⟩) | (go_at_call 136; refine (bad_any _ _).mono ?_; rintro e w' ⟨rfl, rfl⟩))
                go_ret3
                exact ⟨by rw [HF.out]; rfl, rfl⟩
              · have HF : Hid (R = Cm.rdm (bl s) ((c.toNat - 192) * 256 + s[p + 1].toNat) ((c.toNat - 192) * 256 + s[p + 1].toNat) (if nx = 0 then p + 2 else nx) (bl O)) := by
                  unfold Hid; rw [HR.out]; exact Cm.rdm_ptr HAT.out (by omega) hat2 hq
                have hm3 : Oct.getN s p 2 - 49152 ≤ 100000 := by omega
                generalize (c.toNat - 192) * 256 + s[p + 1].toNat = m at *
                have hm2 := Oct.getN_bound s p 2
                have hq2 : ¬ (q : Int) ≤ Oct.getN s p 2 - 49152 := by omega
                have HM : Hid (Oct.getN s p 2 - 49152 = (m : Int)) := by unfold Hid; omega
                clear hm hat2
                by_cases hz : nx = 0
                · rw [if_pos hz] at HF
                  have hz2 : nxI nx = -1 := if_pos hz
                  have e1 : Hid (((p : Int) + 2) = nxI (p + 2)) := (if_neg (by omega)).symm
                  go_wp2_with (go_at_call 85; refine (refget_any _ _ _ _ hs hp).mono ?_; rintro e w' ⟨rfl, rfl⟩)
                  go_round
                  case rel =>
                    rw [HM.out, e1.out]
                    exact RfRel.mk m m (p + 2) O hlen (by have := HM.out; omega) (by omega) HF.out
                  case measure => simp only [rfMu, strOf, intOf, HM.out]; omega
                · rw [if_neg hz] at HF
                  have hz2 : nxI nx = nx := if_neg hz
                  go_wp2_with (go_at_call 85; refine (refget_any _ _ _ _ hs hp).mono ?_; rintro e w' ⟨rfl, rfl⟩)
                  go_round
                  case rel =>
                    rw [HM.out, ← hz2]
                    exact RfRel.mk m m nx O hlen (by have := HM.out; omega) hnx HF.out
                  case measure => simp only [rfMu, strOf, intOf, HM.out]; omega
            · have HF : Hid (R = Cm.bad 2) := by
                unfold Hid; rw [HR.out]; exact Cm.rdm_pcut HAT.out (by omega) (by rw [bl_length]; omega)
              have k1 := get2_no s p (by omega)
              go_wp2_with (first | (go_at_call 85; refine (refget_any _ _ _ _ hs hp).mono ?_; rintro e w' ⟨rfl, rfl⟩) | (go_at_call 136; refine (bad_any _ _).mono ?_; rintro e w' ⟨rfl, rfl⟩))
              go_ret3
              exact ⟨by rw [HF.out]; rfl, rfl⟩
          · have HF : Hid (R = Cm.bad 3) := by
              unfold Hid; rw [HR.out]; exact Cm.rdm_mid HAT.out (by omega) (by omega)
            go_wp2_with (first | (go_at_call 85; refine (refget_any _ _ _ _ hs hp).mono ?_; rintro e w' ⟨rfl, rfl⟩) | (go_at_call 136; refine (bad_any _ _).mono ?_; rintro e w' ⟨rfl, rfl⟩))
            go_ret3
            exact ⟨by rw [HF.out]; rfl, rfl⟩
    · have g1 := get1_no s p (.inr (by omega))
      have HF : Hid (R = Cm.bad 2) := by
        unfold Hid; rw [HR.out]; exact Cm.rdm_cut (by rw [bl_length]; omega)
      go_wp2_with (first | (go_at_call 85; refine (refget_any _ _ _ _ hs hp).mono ?_; rintro e w' ⟨rfl, rfl⟩) | (go_at_call 136; refine (bad_any _ _).mono ?_; rintro e w' ⟨rfl, rfl⟩))
      go_ret3
      exact ⟨by rw [HF.out]; rfl, rfl⟩

theorem refread_neg (s : ByteArray) (p : Int) (w : World) (hs : s.size ≤ maxLen) (hp : p < 0) :
    Calls Try.prog 124 #[.string s, .int .i64 p] w fun e w' => e = .returned (.tuple #[.string ⟨#[]⟩, .int .i64 0, .int .i64 2]) ∧ w' = w := by
  have h1 := get1_no s p (.inl hp)
  go_enter Try.func124, Try.ntmps124
  go_wp2
  refine wp_loop_rounds 1 ?_
  rw [rounds_succ]
  go_wp2_with (first | (go_at_call 85; refine (refget_any _ _ _ _ hs (by omega)).mono ?_; rintro e w' ⟨rfl, rfl⟩) | (go_at_call 136; refine (bad_any _ _).mono ?_; rintro e w' ⟨rfl, rfl⟩))
  go_ret3
  exact ⟨rfl, rfl⟩
theorem refread_any (s : ByteArray) (p : Int) (w : World) (hs : s.size ≤ maxLen) (hp : p ≤ 9223372036854775807) :
    Calls Try.prog 124 #[.string s, .int .i64 p] w fun e w' => e = .returned (.tuple #[.string (rrS (Cm.readL (bl s) p)), .int .i64 (Cm.readL (bl s) p).next, .int .i64 (Cm.readL (bl s) p).e]) ∧ w' = w := by
  by_cases h : 0 ≤ p
  · obtain ⟨n, rfl⟩ := Int.eq_ofNat_of_zero_le h
    exact refread_nat s n _ w hs hp (hide (by rw [Cm.readL, if_pos h, Int.toNat_natCast]))
  · rw [Cm.readL, if_neg h]
    exact refread_neg s p w hs (by omega)
end Go.Proofs.Ytdlaepfnogmebaa

namespace Go.Proofs.Ytdlaepfnogmebaa
open Go.RowKit

def wrS (base : ByteArray) (p : Int) (n : ByteArray) : ByteArray := if Cm.wrOk (bl base) p (bl n) = true then ⟨(Cm.wrL (bl base) p.toNat (bl n)).toArray⟩ else ⟨#[]⟩
theorem wrS_no {base : ByteArray} {p : Int} {n : ByteArray} (h : Cm.wrOk (bl base) p (bl n) = false) : wrS base p n = ⟨#[]⟩ := by rw [wrS, if_neg (by rw [h]; decide)]
theorem wrOk_spec (b : List UInt8) (p : Int) (n : List UInt8) : Cm.wrOk b p n = true ↔ (Nm.okL b = true ∧ Nm.okL n = true) ∧ (0 ≤ p ∧ p ≤ 16000) := by simp [Cm.wrOk]
theorem bl_upS (n : ByteArray) (h : Nm.okL (bl n) = true) (hr : bl n ≠ [0]) : bl (upS n) = Nm.up1 (bl n) := by
  rw [upS, if_pos ⟨h, hr⟩, bl_from]; rfl
theorem in_shorter {n e : List UInt8} (hn : Nm.okL n = true) (he : e ≠ [0]) (h : Nm.inB n e = true) : e.length ≤ n.length := by
  rw [Cm.in_ends e he n hn, List.any_eq_true] at h
  obtain ⟨r, hr, hs⟩ := h
  rw [← Cm.same_length hs]
  exact (Cm.ends_less n hn).2 r hr

theorem putS_size (n k : Int) : (Oct.putS n k).size ≤ 4 := by
  by_cases h : Oct.putOk n k = true
  · have h2 := (Oct.putOk_spec n k).1 h
    rw [Oct.putS_yes n k h, ← bl_length, bl_mk, Oct.beL_length]
    omega
  · simp only [Bool.not_eq_true] at h
    rw [Oct.putS_no n k h]
    exact Nat.zero_le _

def WrRel (base n : ByteArray) (w : World) (s : Value) (wr : World) : Prop :=
  ∃ E : ByteArray, s = .string E ∧ Nm.okL (bl E) = true ∧ E.size ≤ base.size ∧ (Cm.ends (bl base)).find? (fun e => Nm.inB (bl n) e) = (Cm.ends (bl E)).find? (fun e => Nm.inB (bl n) e) ∧ Keeps w wr
theorem WrRel.mk {base n : ByteArray} {w wr : World} (E : ByteArray) (h1 : Nm.okL (bl E) = true) (h2 : E.size ≤ base.size) (h3 : (Cm.ends (bl base)).find? (fun e => Nm.inB (bl n) e) = (Cm.ends (bl E)).find? (fun e => Nm.inB (bl n) e)) (h4 : Keeps w wr) : WrRel base n w (.string E) wr := ⟨E, rfl, h1, h2, h3, h4⟩

theorem cut_str (n : ByteArray) (k m : Nat) (_ : k ≤ n.size) : n.extract 0 (n.size - k) ++ Oct.putS ((49152 + m : Nat) : Int) 2 = (⟨((bl n).take ((bl n).length - k) ++ Oct.beL (49152 + m) 2).toArray⟩ : ByteArray) ∨ ¬ m < 16384 := by
  by_cases hm : m < 16384
  · left
    apply bl_inj
    have hp : Oct.putOk ((49152 + m : Nat) : Int) 2 = true := by
      rw [Oct.putOk_spec]
      refine ⟨by omega, by omega, by omega, ?_⟩
      show ((49152 + m : Nat) : Int) < 256 ^ 2
      omega
    have e1 : bl (Oct.putS ((49152 + m : Nat) : Int) 2) = Oct.beL (49152 + m) 2 := by rw [Oct.putS_yes _ _ hp]; exact bl_mk _
    have e2 : bl (⟨((bl n).take ((bl n).length - k) ++ Oct.beL (49152 + m) 2).toArray⟩ : ByteArray) = (bl n).take ((bl n).length - k) ++ Oct.beL (49152 + m) 2 := bl_mk _
    rw [bl_append, e1, e2, bl_extract, bl_length, List.drop_zero, Nat.sub_zero]
  · exact .inr hm

end Go.Proofs.Ytdlaepfnogmebaa

namespace Go.Proofs.Ytdlaepfnogmebaa
open Go.RowKit

def RoRel (base n : ByteArray) (w : World) (s : Value) (wr : World) : Prop :=
  ∃ R : ByteArray, s = .string R ∧ Nm.okL (bl R) = true ∧ R.size ≤ n.size ∧ (Cm.ends (bl n)).find? (fun r => (Cm.mate (bl base) r).isSome) = (Cm.ends (bl R)).find? (fun r => (Cm.mate (bl base) r).isSome) ∧ Keeps w wr
theorem RoRel.mk {base n : ByteArray} {w wr : World} (R : ByteArray) (h1 : Nm.okL (bl R) = true) (h2 : R.size ≤ n.size) (h3 : (Cm.ends (bl n)).find? (fun r => (Cm.mate (bl base) r).isSome) = (Cm.ends (bl R)).find? (fun r => (Cm.mate (bl base) r).isSome)) (h4 : Keeps w wr) : RoRel base n w (.string R) wr := ⟨R, rfl, h1, h2, h3, h4⟩
def RiRel (base R : ByteArray) (w : World) (s : Value) (wr : World) : Prop :=
  ∃ E : ByteArray, s = .string E ∧ Nm.okL (bl E) = true ∧ E.size ≤ base.size ∧ Cm.mate (bl base) (bl R) = (Cm.ends (bl E)).find? (fun e => Nm.sameB e (bl R)) ∧ Keeps w wr
theorem RiRel.mk {base R : ByteArray} {w wr : World} (E : ByteArray) (h1 : Nm.okL (bl E) = true) (h2 : E.size ≤ base.size) (h3 : Cm.mate (bl base) (bl R) = (Cm.ends (bl E)).find? (fun e => Nm.sameB e (bl R))) (h4 : Keeps w wr) : RiRel base R w (.string E) wr := ⟨E, rfl, h1, h2, h3, h4⟩
theorem one_root {l : List UInt8} (h : Nm.okL l = true) (h1 : l.length ≤ 1) : l = [0] := by
  by_cases hr : l = [0]
  · exact hr
  · have := (Nm.up1_ok h hr).2.1; omega

end Go.Proofs.Ytdlaepfnogmebaa
