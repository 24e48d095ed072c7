/- Plain functions on bytes: what layer 2 answers of names. No condition. -/
import Derived.WalkKit
namespace Go.Proofs.Ythoominldliphaa.Nm

/-- Labels, each with its length ahead, and a byte 0 behind them: by fuel. -/
def chk : Nat → List UInt8 → Bool
  | 0, _ => false
  | _ + 1, [] => false
  | f + 1, c :: r => if c = 0 then r.isEmpty else decide (c.toNat ≤ 63) && chk f (r.drop c.toNat)
def labs : Nat → List UInt8 → List (List UInt8)
  | 0, _ => []
  | _ + 1, [] => []
  | f + 1, c :: r => if c = 0 then [] else r.take c.toNat :: labs f (r.drop c.toNat)
/-- Is it a name? -/
def okL (l : List UInt8) : Bool := decide (l.length ≤ 255) && chk (l.length + 1) l
def labelsL (l : List UInt8) : List (List UInt8) := labs (l.length + 1) l
def lab (x : List UInt8) : List UInt8 := UInt8.ofNat x.length :: x
def joinL (ls : List (List UInt8)) : List UInt8 := ls.flatMap lab ++ [0]
def sizeOk (x : List UInt8) : Bool := decide (1 ≤ x.length ∧ x.length ≤ 63)
def joinOk (ls : List (List UInt8)) : Bool := ls.all sizeOk && decide ((joinL ls).length ≤ 255)
def lowB (c : UInt8) : UInt8 := if 65 ≤ c.toNat ∧ c.toNat ≤ 90 then c + 32 else c
def lowL (l : List UInt8) : List UInt8 := l.map lowB
/-- Without the first label. -/
def up1 (l : List UInt8) : List UInt8 := l.drop (1 + (l.headD 0).toNat)

theorem chk_fuel : ∀ (f g : Nat) (l : List UInt8), l.length < f → l.length < g → chk f l = chk g l
  | 0, _, _, h, _ => by omega
  | _ + 1, 0, _, _, h => by omega
  | f + 1, g + 1, [], _, _ => rfl
  | f + 1, g + 1, c :: r, h1, h2 => by
    simp only [chk]
    have hd : (r.drop c.toNat).length ≤ r.length := by simp
    simp only [List.length_cons] at h1 h2
    rw [chk_fuel f g (r.drop c.toNat) (by omega) (by omega)]
theorem labs_fuel : ∀ (f g : Nat) (l : List UInt8), l.length < f → l.length < g → labs f l = labs g l
  | 0, _, _, h, _ => by omega
  | _ + 1, 0, _, _, h => by omega
  | f + 1, g + 1, [], _, _ => rfl
  | f + 1, g + 1, c :: r, h1, h2 => by
    simp only [labs]
    have hd : (r.drop c.toNat).length ≤ r.length := by simp
    simp only [List.length_cons] at h1 h2
    rw [labs_fuel f g (r.drop c.toNat) (by omega) (by omega)]
theorem chk_nonempty {f : Nat} {l : List UInt8} (h : chk f l = true) : 0 < l.length := by
  cases f with
  | zero => simp [chk] at h
  | succ f => cases l with
    | nil => simp [chk] at h
    | cons c r => simp
theorem toNat_pos {c : UInt8} (h : c ≠ 0) : 1 ≤ c.toNat := by
  rcases Nat.eq_zero_or_pos c.toNat with e | e
  · exact absurd (UInt8.toNat_inj.1 (by rw [e]; rfl)) h
  · exact e
/-- A name is the root, or a label and a name. -/
theorem chk_cases {f : Nat} {l : List UInt8} (h : chk f l = true) :
    l = [0] ∨ ∃ k r f', f = f' + 1 ∧ l = k :: r ∧ k ≠ 0 ∧ k.toNat ≤ 63 ∧ k.toNat < r.length ∧ chk f' (r.drop k.toNat) = true := by
  cases f with
  | zero => simp [chk] at h
  | succ f => cases l with
    | nil => simp [chk] at h
    | cons c r =>
      simp only [chk] at h
      by_cases e : c = 0
      · subst e
        simp only [if_true, List.isEmpty_iff] at h
        exact .inl (by rw [h])
      · simp only [e, if_false, Bool.and_eq_true, decide_eq_true_eq] at h
        have hn := chk_nonempty h.2
        simp only [List.length_drop] at hn
        exact .inr ⟨c, r, f, rfl, rfl, e, h.1, by omega, h.2⟩
theorem chk_root (f : Nat) : chk (f + 1) [0] = true := rfl
theorem chk_cons {f : Nat} {k : UInt8} {r : List UInt8} (h0 : k ≠ 0) (h : k.toNat ≤ 63) : chk (f + 1) (k :: r) = chk f (r.drop k.toNat) := by
  simp [chk, h0, h]
theorem labs_cons {f : Nat} {k : UInt8} {r : List UInt8} (h0 : k ≠ 0) : labs (f + 1) (k :: r) = r.take k.toNat :: labs f (r.drop k.toNat) := by
  simp [labs, h0]
theorem labs_root (f : Nat) : labs (f + 1) [0] = [] := rfl

/-- Labels of a name, joined, are that name. -/
theorem join_labs {f : Nat} {l : List UInt8} (h : chk f l = true) : joinL (labs f l) = l := by
  induction f generalizing l with
  | zero => simp [chk] at h
  | succ f ih =>
    rcases chk_cases h with rfl | ⟨k, r, f', hf, rfl, h0, h63, hk, hr⟩
    · rfl
    · obtain rfl : f = f' := by omega
      rw [labs_cons h0]
      have e := ih hr
      simp only [joinL, List.flatMap_cons, List.append_assoc] at e ⊢
      rw [e]
      have hl : (r.take k.toNat).length = k.toNat := by rw [List.length_take]; omega
      simp only [lab, hl, UInt8.ofNat_toNat, List.cons_append, List.take_append_drop]
theorem labs_sizes {f : Nat} {l : List UInt8} (h : chk f l = true) : (labs f l).all sizeOk = true := by
  induction f generalizing l with
  | zero => simp [chk] at h
  | succ f ih =>
    rcases chk_cases h with rfl | ⟨k, r, f', hf, rfl, h0, h63, hk, hr⟩
    · rfl
    · obtain rfl : f = f' := by omega
      rw [labs_cons h0, List.all_cons, ih hr, Bool.and_true]
      have hl : (r.take k.toNat).length = k.toNat := by rw [List.length_take]; omega
      have := toNat_pos h0
      simp only [sizeOk, hl, decide_eq_true_eq]
      omega
theorem ofNat_ne (n : Nat) (h1 : 1 ≤ n) (h2 : n ≤ 63) : UInt8.ofNat n ≠ 0 ∧ (UInt8.ofNat n).toNat = n := by
  have e : (UInt8.ofNat n).toNat = n := by rw [UInt8.toNat_ofNat']; omega
  exact ⟨fun h => by rw [h] at e; simp at e; omega, e⟩
/-- The name of labels is one, and has them. -/
theorem labs_join (ls : List (List UInt8)) (h : ls.all sizeOk = true) : ∀ f, ls.length < f → chk f (joinL ls) = true ∧ labs f (joinL ls) = ls := by
  induction ls with
  | nil => intro f hf; obtain ⟨g, rfl⟩ : ∃ g, f = g + 1 := ⟨f - 1, by omega⟩; exact ⟨rfl, rfl⟩
  | cons x ls ih =>
    intro f hf
    simp only [List.all_cons, Bool.and_eq_true] at h
    have hx := h.1
    simp only [sizeOk, decide_eq_true_eq] at hx
    simp only [List.length_cons] at hf
    obtain ⟨g, rfl⟩ : ∃ g, f = g + 1 := ⟨f - 1, by omega⟩
    obtain ⟨i1, i2⟩ := ih h.2 g (by omega)
    have hn := ofNat_ne x.length hx.1 hx.2
    have e : joinL (x :: ls) = UInt8.ofNat x.length :: (x ++ joinL ls) := by simp [joinL, lab]
    rw [e, chk_cons hn.1 (by rw [hn.2]; exact hx.2), labs_cons hn.1, hn.2, List.drop_left, List.take_left, i2]
    exact ⟨i1, rfl⟩
theorem join_length (ls : List (List UInt8)) : ls.length ≤ (joinL ls).length ∧ (joinL ls).length = (ls.map (fun x => x.length + 1)).sum + 1 := by
  induction ls with
  | nil => simp [joinL]
  | cons x ls ih =>
    have e : joinL (x :: ls) = UInt8.ofNat x.length :: (x ++ joinL ls) := by simp [joinL, lab]
    rw [e]
    simp only [List.length_cons, List.length_append, List.map_cons, List.sum_cons]
    omega
theorem okL_spec (l : List UInt8) : okL l = true ↔ l.length ≤ 255 ∧ chk (l.length + 1) l = true := by simp [okL]
theorem joinOk_ok (ls : List (List UInt8)) (h : joinOk ls = true) : okL (joinL ls) = true ∧ labelsL (joinL ls) = ls := by
  simp only [joinOk, Bool.and_eq_true, decide_eq_true_eq] at h
  have := labs_join ls h.1 ((joinL ls).length + 1) (by have := (join_length ls).1; omega)
  exact ⟨(okL_spec _).2 ⟨h.2, this.1⟩, this.2⟩
theorem ok_join (l : List UInt8) (h : okL l = true) : joinL (labelsL l) = l ∧ joinOk (labelsL l) = true := by
  have h' := (okL_spec l).1 h
  have e := join_labs h'.2
  refine ⟨e, ?_⟩
  simp only [joinOk, Bool.and_eq_true, decide_eq_true_eq]
  exact ⟨labs_sizes h'.2, by rw [show joinL (labelsL l) = l from e]; exact h'.1⟩

theorem lowB_small {c : UInt8} (h : c.toNat ≤ 63) : lowB c = c := by simp [lowB]; omega
theorem lowB_toNat (c : UInt8) : (lowB c).toNat = if 65 ≤ c.toNat ∧ c.toNat ≤ 90 then c.toNat + 32 else c.toNat := by
  unfold lowB
  split
  · rw [UInt8.toNat_add]; simp; omega
  · rfl
theorem lowB_big {c : UInt8} (h : 63 < c.toNat) : 63 < (lowB c).toNat := by rw [lowB_toNat]; split <;> omega
theorem lowB_twice (c : UInt8) : lowB (lowB c) = lowB c := by
  apply UInt8.toNat_inj.1
  rw [lowB_toNat (lowB c), lowB_toNat c]
  by_cases h : 65 ≤ c.toNat ∧ c.toNat ≤ 90
  · rw [if_pos h, if_neg (by omega)]
  · rw [if_neg h, if_neg h]
theorem lowL_twice (l : List UInt8) : lowL (lowL l) = lowL l := by simp [lowL, Function.comp_def, lowB_twice]
theorem lowL_length (l : List UInt8) : (lowL l).length = l.length := by simp [lowL]
theorem chk_low : ∀ (f : Nat) (l : List UInt8), chk f (lowL l) = chk f l
  | 0, _ => rfl
  | _ + 1, [] => rfl
  | f + 1, c :: r => by
    show chk (f + 1) (lowB c :: lowL r) = _
    by_cases h : c.toNat ≤ 63
    · rw [lowB_small h]
      simp only [chk, lowL]
      rw [← List.map_drop, show List.map lowB (r.drop c.toNat) = lowL (r.drop c.toNat) from rfl, chk_low f]
      simp
    · have hb := lowB_big (c := c) (by omega)
      have e0 : c ≠ 0 := fun e => by subst e; simp at h
      have e1 : lowB c ≠ 0 := fun e => by rw [e] at hb; simp at hb
      simp [chk, e0, e1, h]; omega
theorem labs_low : ∀ (f : Nat) (l : List UInt8), chk f l = true → labs f (lowL l) = (labs f l).map lowL
  | 0, _, _ => rfl
  | _ + 1, [], _ => rfl
  | f + 1, c :: r, h => by
    show labs (f + 1) (lowB c :: lowL r) = _
    by_cases e : c = 0
    · subst e; rfl
    · simp only [chk, e, if_false, Bool.and_eq_true, decide_eq_true_eq] at h
      rw [lowB_small h.1, labs_cons e, labs_cons e]
      simp only [lowL, List.map_cons, ← List.map_drop, ← List.map_take]
      rw [show List.map lowB (r.drop c.toNat) = lowL (r.drop c.toNat) from rfl, labs_low f _ h.2]
theorem ok_low (l : List UInt8) : okL (lowL l) = okL l := by simp only [okL, lowL_length, chk_low]

/-- Does one come from n to z, label by label? By fuel. -/
def anc : Nat → List UInt8 → List UInt8 → Bool
  | 0, _, _ => false
  | f + 1, n, z => n == z || (!(n == [0]) && anc f (up1 n) z)
def sameB (a b : List UInt8) : Bool := okL a && okL b && (lowL a == lowL b)
def inB (a b : List UInt8) : Bool := okL a && okL b && anc a.length (lowL a) (lowL b)

/-- Above a name that is not the root is a shorter one. -/
theorem up1_ok {l : List UInt8} (h : okL l = true) (hr : l ≠ [0]) : okL (up1 l) = true ∧ (up1 l).length + 2 ≤ l.length ∧ labelsL l = (l.drop 1).take (l.headD 0).toNat :: labelsL (up1 l) := by
  have hk := (okL_spec l).1 h
  rcases chk_cases hk.2 with e | ⟨k, r, f', hf, rfl, h0, h63, hlt, hc⟩
  · exact absurd e hr
  · have hp := toNat_pos h0
    have e1 : up1 (k :: r) = r.drop k.toNat := by simp [up1, Nat.add_comm 1]
    have hl : (r.drop k.toNat).length = r.length - k.toNat := by simp
    simp only [List.length_cons] at hk hf
    refine ⟨?_, by rw [e1, hl]; simp; omega, ?_⟩
    · rw [e1, okL_spec]
      exact ⟨by omega, by rw [chk_fuel _ f' _ (by omega) (by omega)]; exact hc⟩
    · rw [e1]
      simp only [labelsL, List.length_cons, List.drop_succ_cons, List.drop_zero, List.headD_cons]
      rw [labs_cons h0]
      congr 1
      exact labs_fuel _ _ _ (by omega) (by omega)
theorem ok_pos {l : List UInt8} (h : okL l = true) : 0 < l.length := chk_nonempty ((okL_spec l).1 h).2
theorem anc_fuel : ∀ (f g : Nat) (l z : List UInt8), okL l = true → l.length ≤ f → l.length ≤ g → anc f l z = anc g l z
  | 0, _, _, _, h, h1, _ => by have := ok_pos h; omega
  | _ + 1, 0, _, _, h, _, h2 => by have := ok_pos h; omega
  | f + 1, g + 1, l, z, h, h1, h2 => by
    simp only [anc]
    by_cases hr : l = [0]
    · subst hr; simp
    · have hu := up1_ok h hr
      rw [anc_fuel f g (up1 l) z hu.1 (by omega) (by omega)]
theorem anc_step {l z : List UInt8} (h : okL l = true) (hr : l ≠ [0]) (hz : l ≠ z) : anc l.length l z = anc (up1 l).length (up1 l) z := by
  have hu := up1_ok h hr
  obtain ⟨f, hf⟩ : ∃ f, l.length = f + 1 := ⟨l.length - 1, by have := ok_pos h; omega⟩
  rw [hf]
  simp only [anc]
  have e1 : (l == z) = false := by simpa using hz
  have e2 : (l == [0]) = false := by simpa using hr
  rw [e1, e2]
  simp only [Bool.false_or, Bool.not_false, Bool.true_and]
  exact anc_fuel _ _ _ _ hu.1 (by omega) (Nat.le_refl _)
theorem anc_self {l : List UInt8} (h : okL l = true) : anc l.length l l = true := by
  obtain ⟨f, hf⟩ : ∃ f, l.length = f + 1 := ⟨l.length - 1, by have := ok_pos h; omega⟩
  rw [hf]; simp [anc]
theorem anc_root {z : List UInt8} (h : [0] ≠ z) : anc 1 [0] z = false := by simp [anc, h]
theorem up1_low {l : List UInt8} (h : okL l = true) (hr : l ≠ [0]) : up1 (lowL l) = lowL (up1 l) := by
  have hk := (okL_spec l).1 h
  rcases chk_cases hk.2 with e | ⟨k, r, f', hf, rfl, h0, h63, hlt, hc⟩
  · exact absurd e hr
  · simp only [up1, lowL, List.map_cons, List.headD_cons, lowB_small h63, Nat.add_comm 1, List.drop_succ_cons, List.map_drop]
theorem low_root (l : List UInt8) : lowL l = [0] ↔ l = [0] := by
  constructor
  · intro h
    have hl := lowL_length l
    rw [h] at hl
    match l, hl with
    | [c], _ =>
      have e : lowB c = 0 := by simpa [lowL] using h
      have h2 := lowB_toNat c
      rw [e] at h2
      have : c.toNat = 0 := by split at h2 <;> simp at h2 <;> omega
      rw [show c = 0 from UInt8.toNat_inj.1 (by rw [this]; rfl)]
  · rintro rfl; rfl
end Go.Proofs.Ythoominldliphaa.Nm
