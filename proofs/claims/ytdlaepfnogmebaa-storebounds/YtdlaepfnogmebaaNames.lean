/- Plain functions on bytes: what layer 2 answers of names. No condition. What name.Check, firstEnd, Up answer, for every input. What name.Labels answers, for every input. What name.Low, Same, and the document's Small, answer, for every input. What name.Same and In answer, for every input. What name.Join answers, for every slice of texts. What the document's Labels, Check, Small, Low, Same answer, for every input. What the document's Join, Up, In, Texts answer, for every input. What the document's In and Texts answer, for every input. -/
import Derived.WalkKit
import Derived.Test.YtdlaepfnogmebaaRows
import Derived.Test.YtdlaepfnogmebaaBase
import Derived.RegionTactic
import Derived.BigRegion
namespace Go.Proofs.Ytdlaepfnogmebaa.Nm

/-- Labels, each with its length ahead, and a byte 0 behind them: by fuel. -/
def chk : Nat → List UInt8 → Bool
  | 0, _ => false
  | _ + 1, [] => false
  | f + 1, c :: r => if c = 0 then r.isEmpty else decide (c.toNat ≤ 63) && chk f (r.drop c.toNat)
def labs : Nat → List UInt8 → List (List UInt8)
  | 0, _ => []
  | _ + 1, [] => []
  | f + 1, c :: r => if c = 0 then [] else r.take c.toNat :: labs f (r.drop c.toNat)
/-- Is it a name? -/
def okL (l : List UInt8) : Bool := decide (l.length ≤ 255) && chk (l.length + 1) l
def labelsL (l : List UInt8) : List (List UInt8) := labs (l.length + 1) l
def lab (x : List UInt8) : List UInt8 := UInt8.ofNat x.length :: x
def joinL (ls : List (List UInt8)) : List UInt8 := ls.flatMap lab ++ [0]
def sizeOk (x : List UInt8) : Bool := decide (1 ≤ x.length ∧ x.length ≤ 63)
def joinOk (ls : List (List UInt8)) : Bool := ls.all sizeOk && decide ((joinL ls).length ≤ 255)
def lowB (c : UInt8) : UInt8 := if 65 ≤ c.toNat ∧ c.toNat ≤ 90 then c + 32 else c
def lowL (l : List UInt8) : List UInt8 := l.map lowB
/-- Without the first label. -/
def up1 (l : List UInt8) : List UInt8 := l.drop (1 + (l.headD 0).toNat)

theorem chk_fuel : ∀ (f g : Nat) (l : List UInt8), l.length < f → l.length < g → chk f l = chk g l
  | 0, _, _, h, _ => by omega
  | _ + 1, 0, _, _, h => by omega
  | f + 1, g + 1, [], _, _ => rfl
  | f + 1, g + 1, c :: r, h1, h2 => by
    simp only [chk]
    have hd : (r.drop c.toNat).length ≤ r.length := by simp
    simp only [List.length_cons] at h1 h2
    rw [chk_fuel f g (r.drop c.toNat) (by omega) (by omega)]
theorem labs_fuel : ∀ (f g : Nat) (l : List UInt8), l.length < f → l.length < g → labs f l = labs g l
  | 0, _, _, h, _ => by omega
  | _ + 1, 0, _, _, h => by omega
  | f + 1, g + 1, [], _, _ => rfl
  | f + 1, g + 1, c :: r, h1, h2 => by
    simp only [labs]
    have hd : (r.drop c.toNat).length ≤ r.length := by simp
    simp only [List.length_cons] at h1 h2
    rw [labs_fuel f g (r.drop c.toNat) (by omega) (by omega)]
theorem chk_nonempty {f : Nat} {l : List UInt8} (h : chk f l = true) : 0 < l.length := by
  cases f with
  | zero => simp [chk] at h
  | succ f => cases l with
    | nil => simp [chk] at h
    | cons c r => simp
theorem toNat_pos {c : UInt8} (h : c ≠ 0) : 1 ≤ c.toNat := by
  rcases Nat.eq_zero_or_pos c.toNat with e | e
  · exact absurd (UInt8.toNat_inj.1 (by rw [e]; rfl)) h
  · exact e
/-- A name is the root, or a label and a name. -/
theorem chk_cases {f : Nat} {l : List UInt8} (h : chk f l = true) :
    l = [0] ∨ ∃ k r f', f = f' + 1 ∧ l = k :: r ∧ k ≠ 0 ∧ k.toNat ≤ 63 ∧ k.toNat < r.length ∧ chk f' (r.drop k.toNat) = true := by
  cases f with
  | zero => simp [chk] at h
  | succ f => cases l with
    | nil => simp [chk] at h
    | cons c r =>
      simp only [chk] at h
      by_cases e : c = 0
      · subst e
        simp only [if_true, List.isEmpty_iff] at h
        exact .inl (by rw [h])
      · simp only [e, if_false, Bool.and_eq_true, decide_eq_true_eq] at h
        have hn := chk_nonempty h.2
        simp only [List.length_drop] at hn
        exact .inr ⟨c, r, f, rfl, rfl, e, h.1, by omega, h.2⟩
theorem chk_root (f : Nat) : chk (f + 1) [0] = true := rfl
theorem chk_cons {f : Nat} {k : UInt8} {r : List UInt8} (h0 : k ≠ 0) (h : k.toNat ≤ 63) : chk (f + 1) (k :: r) = chk f (r.drop k.toNat) := by
  simp [chk, h0, h]
theorem labs_cons {f : Nat} {k : UInt8} {r : List UInt8} (h0 : k ≠ 0) : labs (f + 1) (k :: r) = r.take k.toNat :: labs f (r.drop k.toNat) := by
  simp [labs, h0]
theorem labs_root (f : Nat) : labs (f + 1) [0] = [] := rfl

/-- Labels of a name, joined, are that name. -/
theorem join_labs {f : Nat} {l : List UInt8} (h : chk f l = true) : joinL (labs f l) = l := by
  induction f generalizing l with
  | zero => simp [chk] at h
  | succ f ih =>
    rcases chk_cases h with rfl | ⟨k, r, f', hf, rfl, h0, h63, hk, hr⟩
    · rfl
    · obtain rfl : f = f' := by omega
      rw [labs_cons h0]
      have e := ih hr
      simp only [joinL, List.flatMap_cons, List.append_assoc] at e ⊢
      rw [e]
      have hl : (r.take k.toNat).length = k.toNat := by rw [List.length_take]; omega
      simp only [lab, hl, UInt8.ofNat_toNat, List.cons_append, List.take_append_drop]
theorem labs_sizes {f : Nat} {l : List UInt8} (h : chk f l = true) : (labs f l).all sizeOk = true := by
  induction f generalizing l with
  | zero => simp [chk] at h
  | succ f ih =>
    rcases chk_cases h with rfl | ⟨k, r, f', hf, rfl, h0, h63, hk, hr⟩
    · rfl
    · obtain rfl : f = f' := by omega
      rw [labs_cons h0, List.all_cons, ih hr, Bool.and_true]
      have hl : (r.take k.toNat).length = k.toNat := by rw [List.length_take]; omega
      have := toNat_pos h0
      simp only [sizeOk, hl, decide_eq_true_eq]
      omega
theorem ofNat_ne (n : Nat) (h1 : 1 ≤ n) (h2 : n ≤ 63) : UInt8.ofNat n ≠ 0 ∧ (UInt8.ofNat n).toNat = n := by
  have e : (UInt8.ofNat n).toNat = n := by rw [UInt8.toNat_ofNat']; omega
  exact ⟨fun h => by rw [h] at e; simp at e; omega, e⟩
/-- The name of labels is one, and has them. -/
theorem labs_join (ls : List (List UInt8)) (h : ls.all sizeOk = true) : ∀ f, ls.length < f → chk f (joinL ls) = true ∧ labs f (joinL ls) = ls := by
  induction ls with
  | nil => intro f hf; obtain ⟨g, rfl⟩ : ∃ g, f = g + 1 := ⟨f - 1, by omega⟩; exact ⟨rfl, rfl⟩
  | cons x ls ih =>
    intro f hf
    simp only [List.all_cons, Bool.and_eq_true] at h
    have hx := h.1
    simp only [sizeOk, decide_eq_true_eq] at hx
    simp only [List.length_cons] at hf
    obtain ⟨g, rfl⟩ : ∃ g, f = g + 1 := ⟨f - 1, by omega⟩
    obtain ⟨i1, i2⟩ := ih h.2 g (by omega)
    have hn := ofNat_ne x.length hx.1 hx.2
    have e : joinL (x :: ls) = UInt8.ofNat x.length :: (x ++ joinL ls) := by simp [joinL, lab]
    rw [e, chk_cons hn.1 (by rw [hn.2]; exact hx.2), labs_cons hn.1, hn.2, List.drop_left, List.take_left, i2]
    exact ⟨i1, rfl⟩
theorem join_length (ls : List (List UInt8)) : ls.length ≤ (joinL ls).length ∧ (joinL ls).length = (ls.map (fun x => x.length + 1)).sum + 1 := by
  induction ls with
  | nil => simp [joinL]
  | cons x ls ih =>
    have e : joinL (x :: ls) = UInt8.ofNat x.length :: (x ++ joinL ls) := by simp [joinL, lab]
    rw [e]
    simp only [List.length_cons, List.length_append, List.map_cons, List.sum_cons]
    omega
theorem okL_spec (l : List UInt8) : okL l = true ↔ l.length ≤ 255 ∧ chk (l.length + 1) l = true := by simp [okL]
theorem joinOk_ok (ls : List (List UInt8)) (h : joinOk ls = true) : okL (joinL ls) = true ∧ labelsL (joinL ls) = ls := by
  simp only [joinOk, Bool.and_eq_true, decide_eq_true_eq] at h
  have := labs_join ls h.1 ((joinL ls).length + 1) (by have := (join_length ls).1; omega)
  exact ⟨(okL_spec _).2 ⟨h.2, this.1⟩, this.2⟩
theorem ok_join (l : List UInt8) (h : okL l = true) : joinL (labelsL l) = l ∧ joinOk (labelsL l) = true := by
  have h' := (okL_spec l).1 h
  have e := join_labs h'.2
  refine ⟨e, ?_⟩
  simp only [joinOk, Bool.and_eq_true, decide_eq_true_eq]
  exact ⟨labs_sizes h'.2, by rw [show joinL (labelsL l) = l from e]; exact h'.1⟩

theorem lowB_small {c : UInt8} (h : c.toNat ≤ 63) : lowB c = c := by simp [lowB]; omega
theorem lowB_toNat (c : UInt8) : (lowB c).toNat = if 65 ≤ c.toNat ∧ c.toNat ≤ 90 then c.toNat + 32 else c.toNat := by
  unfold lowB
  split
  · rw [UInt8.toNat_add]; simp; omega
  · rfl
theorem lowB_big {c : UInt8} (h : 63 < c.toNat) : 63 < (lowB c).toNat := by rw [lowB_toNat]; split <;> omega
theorem lowB_twice (c : UInt8) : lowB (lowB c) = lowB c := by
  apply UInt8.toNat_inj.1
  rw [lowB_toNat (lowB c), lowB_toNat c]
  by_cases h : 65 ≤ c.toNat ∧ c.toNat ≤ 90
  · rw [if_pos h, if_neg (by omega)]
  · rw [if_neg h, if_neg h]
theorem lowL_twice (l : List UInt8) : lowL (lowL l) = lowL l := by simp [lowL, Function.comp_def, lowB_twice]
theorem lowL_length (l : List UInt8) : (lowL l).length = l.length := by simp [lowL]
theorem chk_low : ∀ (f : Nat) (l : List UInt8), chk f (lowL l) = chk f l
  | 0, _ => rfl
  | _ + 1, [] => rfl
  | f + 1, c :: r => by
    show chk (f + 1) (lowB c :: lowL r) = _
    by_cases h : c.toNat ≤ 63
    · rw [lowB_small h]
      simp only [chk, lowL]
      rw [← List.map_drop, show List.map lowB (r.drop c.toNat) = lowL (r.drop c.toNat) from rfl, chk_low f]
      simp
    · have hb := lowB_big (c := c) (by omega)
      have e0 : c ≠ 0 := fun e => by subst e; simp at h
      have e1 : lowB c ≠ 0 := fun e => by rw [e] at hb; simp at hb
      simp [chk, e0, e1, h]; omega
theorem labs_low : ∀ (f : Nat) (l : List UInt8), chk f l = true → labs f (lowL l) = (labs f l).map lowL
  | 0, _, _ => rfl
  | _ + 1, [], _ => rfl
  | f + 1, c :: r, h => by
    show labs (f + 1) (lowB c :: lowL r) = _
    by_cases e : c = 0
    · subst e; rfl
    · simp only [chk, e, if_false, Bool.and_eq_true, decide_eq_true_eq] at h
      rw [lowB_small h.1, labs_cons e, labs_cons e]
      simp only [lowL, List.map_cons, ← List.map_drop, ← List.map_take]
      rw [show List.map lowB (r.drop c.toNat) = lowL (r.drop c.toNat) from rfl, labs_low f _ h.2]
theorem ok_low (l : List UInt8) : okL (lowL l) = okL l := by simp only [okL, lowL_length, chk_low]

/-- Does one come from n to z, label by label? By fuel. -/
def anc : Nat → List UInt8 → List UInt8 → Bool
  | 0, _, _ => false
  | f + 1, n, z => n == z || (!(n == [0]) && anc f (up1 n) z)
def sameB (a b : List UInt8) : Bool := okL a && okL b && (lowL a == lowL b)
def inB (a b : List UInt8) : Bool := okL a && okL b && anc a.length (lowL a) (lowL b)

/-- Above a name that is not the root is a shorter one. -/
theorem up1_ok {l : List UInt8} (h : okL l = true) (hr : l ≠ [0]) : okL (up1 l) = true ∧ (up1 l).length + 2 ≤ l.length ∧ labelsL l = (l.drop 1).take (l.headD 0).toNat :: labelsL (up1 l) := by
  have hk := (okL_spec l).1 h
  rcases chk_cases hk.2 with e | ⟨k, r, f', hf, rfl, h0, h63, hlt, hc⟩
  · exact absurd e hr
  · have hp := toNat_pos h0
    have e1 : up1 (k :: r) = r.drop k.toNat := by simp [up1, Nat.add_comm 1]
    have hl : (r.drop k.toNat).length = r.length - k.toNat := by simp
    simp only [List.length_cons] at hk hf
    refine ⟨?_, by rw [e1, hl]; simp; omega, ?_⟩
    · rw [e1, okL_spec]
      exact ⟨by omega, by rw [chk_fuel _ f' _ (by omega) (by omega)]; exact hc⟩
    · rw [e1]
      simp only [labelsL, List.length_cons, List.drop_succ_cons, List.drop_zero, List.headD_cons]
      rw [labs_cons h0]
      congr 1
      exact labs_fuel _ _ _ (by omega) (by omega)
theorem ok_pos {l : List UInt8} (h : okL l = true) : 0 < l.length := chk_nonempty ((okL_spec l).1 h).2
theorem anc_fuel : ∀ (f g : Nat) (l z : List UInt8), okL l = true → l.length ≤ f → l.length ≤ g → anc f l z = anc g l z
  | 0, _, _, _, h, h1, _ => by have := ok_pos h; omega
  | _ + 1, 0, _, _, h, _, h2 => by have := ok_pos h; omega
  | f + 1, g + 1, l, z, h, h1, h2 => by
    simp only [anc]
    by_cases hr : l = [0]
    · subst hr; simp
    · have hu := up1_ok h hr
      rw [anc_fuel f g (up1 l) z hu.1 (by omega) (by omega)]
theorem anc_step {l z : List UInt8} (h : okL l = true) (hr : l ≠ [0]) (hz : l ≠ z) : anc l.length l z = anc (up1 l).length (up1 l) z := by
  have hu := up1_ok h hr
  obtain ⟨f, hf⟩ : ∃ f, l.length = f + 1 := ⟨l.length - 1, by have := ok_pos h; omega⟩
  rw [hf]
  simp only [anc]
  have e1 : (l == z) = false := by simpa using hz
  have e2 : (l == [0]) = false := by simpa using hr
  rw [e1, e2]
  simp only [Bool.false_or, Bool.not_false, Bool.true_and]
  exact anc_fuel _ _ _ _ hu.1 (by omega) (Nat.le_refl _)
theorem anc_self {l : List UInt8} (h : okL l = true) : anc l.length l l = true := by
  obtain ⟨f, hf⟩ : ∃ f, l.length = f + 1 := ⟨l.length - 1, by have := ok_pos h; omega⟩
  rw [hf]; simp [anc]
theorem anc_root {z : List UInt8} (h : [0] ≠ z) : anc 1 [0] z = false := by simp [anc, h]
theorem up1_low {l : List UInt8} (h : okL l = true) (hr : l ≠ [0]) : up1 (lowL l) = lowL (up1 l) := by
  have hk := (okL_spec l).1 h
  rcases chk_cases hk.2 with e | ⟨k, r, f', hf, rfl, h0, h63, hlt, hc⟩
  · exact absurd e hr
  · simp only [up1, lowL, List.map_cons, List.headD_cons, lowB_small h63, Nat.add_comm 1, List.drop_succ_cons, List.map_drop]
theorem low_root (l : List UInt8) : lowL l = [0] ↔ l = [0] := by
  constructor
  · intro h
    have hl := lowL_length l
    rw [h] at hl
    match l, hl with
    | [c], _ =>
      have e : lowB c = 0 := by simpa [lowL] using h
      have h2 := lowB_toNat c
      rw [e] at h2
      have : c.toNat = 0 := by split at h2 <;> simp at h2 <;> omega
      rw [show c = 0 from UInt8.toNat_inj.1 (by rw [this]; rfl)]
  · rintro rfl; rfl
end Go.Proofs.Ytdlaepfnogmebaa.Nm

namespace Go.Proofs.Ytdlaepfnogmebaa
open Go.RowKit

/-- A text's bytes. -/
def bl (n : ByteArray) : List UInt8 := n.data.toList
theorem bl_length (n : ByteArray) : (bl n).length = n.size := by simp [bl]
theorem bl_get (n : ByteArray) (i : Nat) (h : i < n.size) : (bl n)[i]'(by rw [bl_length]; exact h) = n[i] := rfl
theorem bl_drop (n : ByteArray) (i : Nat) (h : i < n.size) : (bl n).drop i = n[i] :: (bl n).drop (i + 1) := by
  rw [← bl_get n i h]
  exact List.drop_eq_getElem_cons _
theorem bl_extract (n : ByteArray) (a b : Nat) : bl (n.extract a b) = ((bl n).drop a).take (b - a) := by
  simp [bl, ByteArray.data_extract, List.extract_eq_take_drop]
theorem bl_from (n : ByteArray) (a : Nat) : bl (n.extract a n.size) = (bl n).drop a := by
  rw [bl_extract, List.take_of_length_le (by rw [List.length_drop, bl_length]; omega)]
theorem bl_mk (l : List UInt8) : bl ⟨l.toArray⟩ = l := by simp [bl]
theorem bl_inj {a b : ByteArray} (h : bl a = bl b) : a = b := by
  apply ByteArray.ext
  apply Array.ext'
  exact h
theorem toList_bl (a : ByteArray) : a.toList = bl a := ByteArray.toList_eq a

theorem u8_ne {c : UInt8} : (((c.toNat : Int) != 0) = true) ↔ c ≠ 0 := by
  simp [bne_iff_ne]
  constructor
  · intro h e; subst e; simp at h
  · intro h e; exact h (UInt8.toNat_inj.1 (by simpa using e))

theorem chk_at_zero (n : ByteArray) (a : Nat) (h : a < n.size) (h0 : n[a] = 0) : Nm.chk (n.size + 1) ((bl n).drop a) = ((a : Int) == (n.size : Int) - 1) := by
  rw [bl_drop n a h, h0]
  simp only [Nm.chk, if_true]
  rw [Bool.eq_iff_iff, List.isEmpty_iff, beq_iff_eq, ← List.length_eq_zero_iff, List.length_drop, bl_length]
  omega
theorem chk_at_big (n : ByteArray) (a : Nat) (h : a < n.size) (h0 : n[a] ≠ 0) (h63 : (63 : Int) < n[a].toNat) : Nm.chk (n.size + 1) ((bl n).drop a) = false := by
  rw [bl_drop n a h]
  simp only [Nm.chk, h0, if_false, Bool.and_eq_false_iff, decide_eq_false_iff_not]
  exact .inl (by omega)
theorem chk_at_step (n : ByteArray) (a : Nat) (h : a < n.size) (h0 : n[a] ≠ 0) (h63 : ¬ (63 : Int) < n[a].toNat) : Nm.chk (n.size + 1) ((bl n).drop a) = Nm.chk (n.size + 1) ((bl n).drop (a + (1 + n[a].toNat))) := by
  rw [bl_drop n a h, Nm.chk_cons h0 (by omega), List.drop_drop]
  rw [show a + 1 + n[a].toNat = a + (1 + n[a].toNat) by omega]
  exact Nm.chk_fuel _ _ _ (by rw [List.length_drop, bl_length]; omega) (by rw [List.length_drop, bl_length]; omega)
theorem chk_at_end (n : ByteArray) (a : Nat) (h : ¬ a < n.size) : Nm.chk (n.size + 1) ((bl n).drop a) = ((a : Int) == (n.size : Int) - 1) := by
  rw [List.drop_of_length_le (by rw [bl_length]; omega)]
  symm
  rw [show Nm.chk (n.size + 1) [] = false from rfl, beq_eq_false_iff_ne]
  omega

theorem check_any (n : ByteArray) (w : World) (hn : n.size ≤ maxLen) :
    Calls Try.prog 120 #[.string n] w fun e w' => e = .returned (.bool (Nm.okL (bl n))) ∧ w' = w := by
  unfold maxLen at hn
  by_cases hl : 255 < (n.size : Int)
  · go_enter Try.func120, Try.ntmps120
    go_wp2
    go_ret
    exact ⟨ret_bool (by simp [Nm.okL, bl_length]; omega), rfl⟩
  · have hok : Nm.okL (bl n) = Nm.chk (n.size + 1) (bl n) := by simp [Nm.okL, bl_length]; omega
    have HO := hide hok
    clear hok
    go_enter Try.func120, Try.ntmps120
    go_wp2
    go_loop [3] (fun i => ∃ a : Nat, a ≤ n.size + 64 ∧ i = .int .i64 a ∧ Nm.chk (n.size + 1) (bl n) = Nm.chk (n.size + 1) ((bl n).drop a)) (fun i => n.size + 64 - (intOf i).toNat)
    case atStart => exact ⟨0, by omega, rfl, rfl⟩
    case round =>
      obtain ⟨a, ha, rfl, hchk⟩ := hrel
      have HC := hide hchk
      clear hchk
      by_cases hlt : a < n.size
      · have hc := UInt8.toNat_lt n[a]
        by_cases h0 : n[a] = 0
        · have z : ((n[a].toNat : Int) != 0) = false := by rw [h0]; rfl
          have E := hide (chk_at_zero n a hlt h0)
          clear h0
          go_wp2
          go_ret
          exact ⟨ret_bool (by rw [HO.out, HC.out, E.out]), rfl⟩
        · have z : ((n[a].toNat : Int) != 0) = true := u8_ne.2 h0
          by_cases h63 : (63 : Int) < n[a].toNat
          · have E := hide (chk_at_big n a hlt h0 h63)
            clear h0
            go_wp2
            go_ret
            exact ⟨ret_bool (by rw [HO.out, HC.out, E.out]), rfl⟩
          · have E := hide (chk_at_step n a hlt h0 h63)
            clear h0
            go_wp2
            go_round
            case rel => exact ⟨a + (1 + n[a].toNat), by omega, by go_num, by rw [HC.out, E.out]⟩
            case measure => simp [intOf]; omega
      · have E := hide (chk_at_end n a hlt)
        go_wp2
        go_ret
        exact ⟨ret_bool (by rw [HO.out, HC.out, E.out]), rfl⟩

/-- Up, as texts. -/
def upS (n : ByteArray) : ByteArray := if Nm.okL (bl n) = true ∧ bl n ≠ [0] then n.extract (1 + ((bl n).headD 0).toNat) n.size else ⟨#[]⟩
def upOk (n : ByteArray) : Bool := Nm.okL (bl n) && !(bl n == [0])

theorem ok_parts (n : ByteArray) (h : Nm.okL (bl n) = true) (hr : bl n ≠ [0]) :
    ∃ hp : 0 < n.size, n[0] = (bl n).headD 0 ∧ n[0] ≠ 0 ∧ n[0].toNat ≤ 63 ∧ n[0].toNat + 1 < n.size ∧ n.size ≤ 255 ∧ Nm.okL ((bl n).drop (1 + n[0].toNat)) = true := by
  have hk := (Nm.okL_spec _).1 h
  have hp : 0 < n.size := by have := Nm.chk_nonempty hk.2; rw [bl_length] at this; exact this
  have hd := bl_drop n 0 hp
  rw [List.drop_zero] at hd
  rcases Nm.chk_cases hk.2 with e | ⟨k, r, f', hf, e, h0, h63, hlt, hc⟩
  · exact absurd e hr
  · have e1 : n[0] = k := by
      have := hd.symm.trans e
      exact (List.cons.inj this).1
    have e2 : (bl n).headD 0 = k := by rw [e]; rfl
    have hln : (bl n).length = r.length + 1 := by rw [e]; simp
    rw [bl_length] at hln
    refine ⟨hp, by rw [e1, e2], by rw [e1]; exact h0, by rw [e1]; exact h63, by rw [e1]; omega, by rw [← bl_length]; exact hk.1, ?_⟩
    rw [e1, e, Nat.add_comm 1, List.drop_succ_cons, Nm.okL_spec]
    have hrl : (r.drop k.toNat).length ≤ r.length := by simp
    refine ⟨by have := hk.1; rw [bl_length] at this; omega, ?_⟩
    rw [Nm.chk_fuel _ f' _ (by omega) (by rw [bl_length] at hf; omega)]
    exact hc

end Go.Proofs.Ytdlaepfnogmebaa

namespace Go.Proofs.Ytdlaepfnogmebaa
open Go.RowKit

def labelsOf (n : ByteArray) : List (List UInt8) := if Nm.okL (bl n) = true then Nm.labelsL (bl n) else []

theorem sv_bl (x : ByteArray) : sv (bl x) = .string x := by simp [sv, bl]
theorem cell_str (w : World) (x : ByteArray) (t : TypeId) : (w.alloc (.cells #[.string x] t)).cell? ⟨w.heap.size, 0, none⟩ = some (sv (bl x)) := by
  rw [sv_bl]
  exact (World.cell?_alloc_mark w _ _ (0, 0) 0).trans rfl

theorem labels_step (m : ByteArray) (h : Nm.okL (bl m) = true) (hr : bl m ≠ [0]) (hp : 0 < m.size) :
    Nm.labelsL (bl m) = bl (m.extract 1 (1 + m[0].toNat)) :: Nm.labelsL (bl (m.extract (1 + m[0].toNat) m.size)) := by
  obtain ⟨_, q1, q2, q3, q4, q5, q6⟩ := ok_parts m h hr
  have hd := bl_drop m 0 hp
  rw [List.drop_zero] at hd
  have hl := bl_length m
  rw [bl_from, bl_extract]
  conv => lhs; rw [Nm.labelsL, hd]
  rw [Nm.labs_cons q2, show 1 + m[0].toNat - 1 = m[0].toNat by omega, Nat.zero_add]
  congr 1
  rw [List.drop_drop, Nm.labelsL]
  exact Nm.labs_fuel _ _ _ (by simp [List.length_drop, hl]; omega) (by omega)

end Go.Proofs.Ytdlaepfnogmebaa

namespace Go.Proofs.Ytdlaepfnogmebaa
open Go.RowKit

/-- The first p bytes in small letters. -/
def half (l : List UInt8) (p : Nat) : List UInt8 := Nm.lowL (l.take p) ++ l.drop p
theorem half_zero (l : List UInt8) : half l 0 = l := by simp [half, Nm.lowL]
theorem half_all (l : List UInt8) (p : Nat) (h : l.length ≤ p) : half l p = Nm.lowL l := by
  simp [half, List.take_of_length_le h, List.drop_of_length_le h]
theorem half_length (l : List UInt8) (p : Nat) : (half l p).length = l.length := by simp [half, Nm.lowL]; omega
theorem half_get (l : List UInt8) (p j : Nat) : (half l p)[j]? = (l[j]?).map (fun c => if j < p then Nm.lowB c else c) := by
  simp only [half, Nm.lowL, List.getElem?_append, List.length_map, List.length_take, List.getElem?_map, List.getElem?_take, List.getElem?_drop]
  by_cases h : j < p
  · by_cases h2 : j < l.length
    · rw [if_pos (by omega)]; simp [h, h2]
    · have e : l[j]? = none := List.getElem?_eq_none (by omega)
      rw [if_neg (by omega), e, List.getElem?_eq_none (by omega)]
      rfl
  · rw [if_neg (by omega)]
    by_cases h2 : j < l.length
    · rw [show p + (j - min p l.length) = j by omega]
      simp [h]
    · rw [List.getElem?_eq_none (by omega), List.getElem?_eq_none (by omega)]
      rfl
theorem half_keep (l : List UInt8) (p q : Nat) (hpq : p ≤ q) (h : ∀ i (hi : i < l.length), p ≤ i → i < q → Nm.lowB l[i] = l[i]) : half l q = half l p := by
  apply List.ext_getElem?
  intro j
  rw [half_get, half_get]
  by_cases hj : j < l.length
  · rw [List.getElem?_eq_getElem hj]
    simp only [Option.map_some, Option.some.injEq]
    by_cases a : j < p
    · rw [if_pos a, if_pos (by omega)]
    · rw [if_neg a]
      by_cases b : j < q
      · rw [if_pos b]; exact h j hj (by omega) b
      · rw [if_neg b]
  · rw [List.getElem?_eq_none (by omega)]; rfl
theorem half_set (l : List UInt8) (p : Nat) (hp : p < l.length) : (half l p).set p (Nm.lowB l[p]) = half l (p + 1) := by
  apply List.ext_getElem?
  intro j
  rw [List.getElem?_set, half_length, half_get, half_get]
  by_cases e : p = j
  · subst e
    simp [hp]
  · rw [if_neg e]
    by_cases hj : j < l.length
    · rw [List.getElem?_eq_getElem hj]
      simp only [Option.map_some, Option.some.injEq]
      by_cases a : j < p
      · rw [if_pos a, if_pos (by omega)]
      · rw [if_neg a, if_neg (by omega)]
    · rw [List.getElem?_eq_none (by omega)]; rfl
theorem lowB_keep (c : UInt8) (h : ¬ (65 ≤ c.toNat ∧ c.toNat ≤ 90)) : Nm.lowB c = c := by simp only [Nm.lowB, h, if_false]
theorem lowB_up (c : UInt8) (h1 : 65 ≤ c.toNat) (h2 : c.toNat ≤ 90) : bv (Nm.lowB c) = .int .u8 ((c.toNat : Int) - 65 + 97) := by
  simp only [bv, Nm.lowB_toNat, h1, h2, and_self, if_true, Value.int.injEq, true_and]
  omega

/-- A row of bytes, and an iterator in another block. -/
theorem Row.iter {w : World} {G : Nat} {l : List UInt8} (h : Row w G l) (k : Nat) (hk : G ≠ k) (s : ByteArray) (p : Nat) : Row (w.iterAt k s p) G l := by
  intro j hj
  have e := Lib.iterAt_other w k G s p hk
  exact ⟨(World.cell?_of_block (a := ⟨G, j, none⟩) e).trans (h.cell j hj), (World.frozen?_of_block (a := ⟨G, j, none⟩) e).trans (h.free j hj)⟩
theorem setCell_iter {w : World} {k : Nat} {s : ByteArray} {p : Nat} (h : w.heap[k]? = some (.stringIter s p)) (a : Addr) (ha : k ≠ a.block) (u : Value) : (w.setCell a u).heap[k]? = some (.stringIter s p) := by
  rw [Below.heap_setCell w a u k ha]; exact h

def lowS (n : ByteArray) : ByteArray := if Nm.okL (bl n) = true then ⟨(Nm.lowL (bl n)).toArray⟩ else ⟨#[]⟩

set_option maxHeartbeats 400000 in
theorem low_any (n : ByteArray) (w : World) (hn : n.size ≤ maxLen) :
    Calls Try.prog 109 #[.string n] w fun e w' => e = .returned (.string (lowS n)) ∧ Keeps w w' := by
  by_cases h : Nm.okL (bl n) = true
  · have hcv2 := fun w => run_bytes_of_string (P := Try.prog) w 9 180 5 n Try.underlying9 Try.underlying180 Try.underlying5
    have h255 : n.size ≤ 255 := by have := ((Nm.okL_spec _).1 h).1; rw [bl_length] at this; exact this
    go_enter Try.func109, Try.ntmps109
    go_wp2_with (go_at_call 120; refine (check_any _ _ hn).mono ?_; rintro e w' ⟨rfl, rfl⟩)
    clear hcv2
    generalize hcap : grownCap w' n.size 0 5 = cap
    clear hcap
    go_loopw [4] (fun _ wr => ∃ p : Nat, p ≤ n.size ∧ wr.heap[w'.heap.size + 1]? = some (.stringIter n p) ∧ Row wr w'.heap.size (half (bl n) p) ∧ Below w'.heap.size w' wr) (fun _ wr => n.size - wr.iterPos (w'.heap.size + 1))
    case atStart =>
      have hs1 : (w'.alloc (.cells (bytesRow n cap) 5 ((bytesRow n cap).size, (bytesRow n cap).size + 1))).drew.heap.size = w'.heap.size + 1 := by simp
      refine ⟨0, Nat.zero_le _, ?_, ?_, ?_⟩
      · have := World.iter_heap (w'.alloc (.cells (bytesRow n cap) 5 ((bytesRow n cap).size, (bytesRow n cap).size + 1))).drew n 0
        rw [hs1] at this
        exact this
      · rw [half_zero]
        refine Row.below (Row.made w' n cap).drew (by rw [hs1]; omega) ?_
        exact (Below.refl _ _).alloc (Nat.le_refl _) _
      · exact (((Below.refl _ _).alloc (Nat.le_refl _) _).drew).alloc (by rw [hs1]; omega) _
    case round =>
      obtain ⟨p, hp, hit, hrow, hbel⟩ := hrel
      have hpos : wr.iterPos (w'.heap.size + 1) = p := by unfold World.iterPos; rw [hit]
      have HP := hide hpos
      clear hpos
      by_cases hlt : p < n.size
      · have hnx := fun ty => Lib.run_next_any_at (P := Try.prog) wr (w'.heap.size + 1) n p ty hit hlt
        have hlen := half_length (bl n) p
        rw [bl_length] at hlen
        by_cases ha : n[p].toNat < 128
        · have hd := decode_ascii n p hlt ha
          rw [hd] at hnx
          clear hd
          have hR1 := hrow.iter (w'.heap.size + 1) (by omega) n (p + 1)
          have hI1 := Lib.iterAt_heap wr (w'.heap.size + 1) n p (p + 1) hit
          have hB1 := Lib.below_iterAt hbel (k := w'.heap.size + 1) (by omega) n (p + 1)
          have hP1 : (wr.iterAt (w'.heap.size + 1) n (p + 1)).iterPos (w'.heap.size + 1) = p + 1 := by unfold World.iterPos; rw [hI1]
          simp only [] at hnx
          generalize wr.iterAt (w'.heap.size + 1) n (p + 1) = w2 at *
          by_cases hA : 65 ≤ n[p].toNat ∧ n[p].toNat ≤ 90
          · obtain ⟨hA1, hA2⟩ := hA
            have hst := half_set (bl n) p (by rw [bl_length]; exact hlt)
            have hR2 := hR1.set p (Nm.lowB n[p]) (by omega)
            rw [show Nm.lowB n[p] = Nm.lowB ((bl n)[p]'(by rw [bl_length]; exact hlt)) from rfl, hst] at hR2
            rw [show Nm.lowB ((bl n)[p]'(by rw [bl_length]; exact hlt)) = Nm.lowB n[p] from rfl, lowB_up n[p] hA1 hA2] at hR2
            obtain ⟨c0, hc⟩ : ∃ c0, w2.cell? ⟨w'.heap.size, p, none⟩ = some c0 := ⟨_, hR1.cell p (by omega)⟩
            have hf := hR1.free p (by omega)
            have hI2 := setCell_iter hI1 ⟨w'.heap.size, p, none⟩ (by simp) (.int .u8 ((n[p].toNat : Int) - 65 + 97))
            have hP2 : (w2.setCell ⟨w'.heap.size, p, none⟩ (.int .u8 ((n[p].toNat : Int) - 65 + 97))).iterPos (w'.heap.size + 1) = p + 1 := by unfold World.iterPos; rw [hI2]
            have HR2 := hide hR2
            have HI2 := hide hI2
            have HP2 := hide hP2
            clear hR2 hI2 hP2 hst hR1 hI1 hP1 hrow hit
            go_wp2
            go_roundw
            case rel => exact ⟨p + 1, by omega, HI2.out, HR2.out, hB1.setCell (Nat.le_refl _) _⟩
            case measure => rw [HP.out, HP2.out]; omega
          · have hk := half_keep (bl n) p (p + 1) (by omega) (fun i hi a b => by
              obtain rfl : i = p := by omega
              exact lowB_keep n[i] hA)
            have HK := hide hk
            have hR : ¬ ((65 : Int) ≤ n[p].toNat ∧ (n[p].toNat : Int) ≤ 90) := by omega
            clear hk hA hrow hit
            by_cases h65 : (65 : Int) ≤ n[p].toNat
            · have h90 : ¬ (n[p].toNat : Int) ≤ 90 := fun e => hR ⟨h65, e⟩
              clear hR
              go_wp2
              go_roundw
              case rel => exact ⟨p + 1, by omega, hI1, by rw [HK.out]; exact hR1, hB1⟩
              case measure => rw [HP.out, hP1]; omega
            · clear hR
              go_wp2
              go_roundw
              case rel => exact ⟨p + 1, by omega, hI1, by rw [HK.out]; exact hR1, hB1⟩
              case measure => rw [HP.out, hP1]; omega
        · have hd := decode_high n p hlt (by omega)
          have hsp := decode_span n p hlt (by omega)
          generalize Utf8.decode n p = d at *
          have hR1 := hrow.iter (w'.heap.size + 1) (by omega) n (p + d.2)
          have hI1 := Lib.iterAt_heap wr (w'.heap.size + 1) n p (p + d.2) hit
          have hB1 := Lib.below_iterAt hbel (k := w'.heap.size + 1) (by omega) n (p + d.2)
          have hP1 : (wr.iterAt (w'.heap.size + 1) n (p + d.2)).iterPos (w'.heap.size + 1) = p + d.2 := by unfold World.iterPos; rw [hI1]
          have hk := half_keep (bl n) p (p + d.2) (by omega) (fun i hi a b => by
            rw [bl_length] at hi
            have := hsp.2 i a b hi
            exact lowB_keep n[i] (by omega))
          have HK := hide hk
          generalize wr.iterAt (w'.heap.size + 1) n (p + d.2) = w2 at *
          have h90 : ¬ (d.1 : Int) ≤ 90 := by omega
          have h65 : (65 : Int) ≤ d.1 := by omega
          have hsp1 := hsp.1
          have hd2 := hd.2
          clear hk hsp hd hrow hit
          go_wp2
          go_roundw
          case rel => exact ⟨p + d.2, hsp1, hI1, by rw [HK.out]; exact hR1, hB1⟩
          case measure => rw [HP.out, hP1]; omega
      · have hnx := fun ty => Lib.run_next_end_at (P := Try.prog) wr (w'.heap.size + 1) n p ty hit hlt
        have hcv := hrow.conv n.size cap (by rw [half_length, bl_length])
        have HF : Hid (lowS n = ⟨(half (bl n) p).toArray⟩) := by
          unfold Hid lowS
          rw [if_pos h, half_all _ _ (by rw [bl_length]; omega)]
        clear hit hrow
        go_wp2
        go_ret
        exact ⟨ret_str HF.out.symm, hbel⟩
  · have HF : Hid (lowS n = ⟨#[]⟩) := by simp [lowS, h, Hid]
    go_enter Try.func109, Try.ntmps109
    go_wp2_with (go_at_call 120; refine (check_any _ _ hn).mono ?_; rintro e w' ⟨rfl, rfl⟩)
    go_ret
    exact ⟨ret_str HF.out.symm, Keeps.refl _⟩
end Go.Proofs.Ytdlaepfnogmebaa

namespace Go.Proofs.Ytdlaepfnogmebaa
open Go.RowKit

theorem lowS_yes (n : ByteArray) (h : Nm.okL (bl n) = true) : bl (lowS n) = Nm.lowL (bl n) := by rw [lowS, if_pos h, bl_mk]
theorem lowS_size (n : ByteArray) : (lowS n).size ≤ n.size := by
  by_cases h : Nm.okL (bl n) = true
  · rw [← bl_length, lowS_yes n h, Nm.lowL_length, bl_length]; exact Nat.le_refl _
  · rw [lowS, if_neg h]; exact Nat.zero_le _

theorem up1_from (m : ByteArray) (hp : 0 < m.size) : bl (m.extract (1 + m[0].toNat) m.size) = Nm.up1 (bl m) := by
  rw [bl_from, Nm.up1]
  have hd := bl_drop m 0 hp
  rw [List.drop_zero] at hd
  rw [show (bl m).headD 0 = m[0] by rw [hd]; rfl]

end Go.Proofs.Ytdlaepfnogmebaa

namespace Go.Proofs.Ytdlaepfnogmebaa
open Go.RowKit

def joinS (ls : List (List UInt8)) : ByteArray := if Nm.joinOk ls = true then ⟨(Nm.joinL ls).toArray⟩ else ⟨#[]⟩
def flat (ls : List (List UInt8)) : List UInt8 := ls.flatMap Nm.lab

theorem flat_take (ls : List (List UInt8)) (j : Nat) (h : j < ls.length) : flat (ls.take (j + 1)) = flat (ls.take j) ++ Nm.lab ls[j] := by
  rw [List.take_succ_eq_append_getElem h]
  simp only [flat, List.flatMap_append, List.flatMap_cons, List.flatMap_nil, List.append_nil]
theorem flat_split (ls : List (List UInt8)) (j : Nat) : (flat ls).length = (flat (ls.take j)).length + (flat (ls.drop j)).length := by
  conv => lhs; rw [← List.take_append_drop j ls]
  simp only [flat, List.flatMap_append, List.length_append]
theorem joinL_flat (ls : List (List UInt8)) : Nm.joinL ls = flat ls ++ [0] := rfl
theorem lab_length (x : List UInt8) : (Nm.lab x).length = x.length + 1 := by simp [Nm.lab]
theorem joinOk_bad (ls : List (List UInt8)) (j : Nat) (h : j < ls.length) (hb : Nm.sizeOk ls[j] = false) : Nm.joinOk ls = false := by
  simp only [Nm.joinOk, Bool.and_eq_false_iff]
  left
  rw [List.all_eq_false]
  exact ⟨_, List.getElem_mem h, by simp [hb]⟩
theorem joinOk_long (ls : List (List UInt8)) (j : Nat) (h : j < ls.length) (hb : 255 < (flat (ls.take j)).length + ls[j].length + 2) : Nm.joinOk ls = false := by
  have h1 := flat_split ls (j + 1)
  rw [flat_take ls j h, List.length_append, lab_length] at h1
  simp only [Nm.joinOk, Bool.and_eq_false_iff, decide_eq_false_iff_not]
  right
  rw [joinL_flat, List.length_append, List.length_singleton]
  omega
theorem joinOk_all (ls : List (List UInt8)) (h1 : ls.all Nm.sizeOk = true) (h2 : (flat ls).length ≤ 254) : Nm.joinOk ls = true := by
  simp only [Nm.joinOk, Bool.and_eq_true, decide_eq_true_eq]
  exact ⟨h1, by rw [joinL_flat, List.length_append, List.length_singleton]; omega⟩

theorem isEmpty_size (X : ByteArray) : X.toList.isEmpty = decide (X.size = 0) := by
  rw [toList_bl, Bool.eq_iff_iff, List.isEmpty_iff, decide_eq_true_eq, ← List.length_eq_zero_iff, bl_length]
theorem sizeOk_false (x : List UInt8) (h : x.length = 0 ∨ 63 < x.length) : Nm.sizeOk x = false := by
  simp only [Nm.sizeOk, decide_eq_false_iff_not]; omega

end Go.Proofs.Ytdlaepfnogmebaa

namespace Go.Proofs.Ytdlaepfnogmebaa
open Go.RowKit

theorem labs_at_zero (n : ByteArray) (a : Nat) (h : a < n.size) (h0 : n[a] = 0) : Nm.labs (n.size + 1) ((bl n).drop a) = [] := by
  rw [bl_drop n a h, h0]; rfl
theorem labs_at_step (n : ByteArray) (a : Nat) (h : a < n.size) (h0 : n[a] ≠ 0) : Nm.labs (n.size + 1) ((bl n).drop a) = bl (n.extract (a + 1) (a + 1 + n[a].toNat)) :: Nm.labs (n.size + 1) ((bl n).drop (a + 1 + n[a].toNat)) := by
  rw [bl_drop n a h, Nm.labs_cons h0, List.drop_drop, bl_extract, show a + 1 + n[a].toNat - (a + 1) = n[a].toNat by omega]
  congr 1
  exact Nm.labs_fuel _ _ _ (by rw [List.length_drop, bl_length]; omega) (by rw [List.length_drop, bl_length]; omega)
theorem chk_at_cut (n : ByteArray) (a : Nat) (h : a < n.size) (h0 : n[a] ≠ 0) (hc : (n.size : Int) - a ≤ n[a].toNat) : Nm.chk (n.size + 1) ((bl n).drop a) = false := by
  by_cases h63 : (63 : Int) < n[a].toNat
  · exact chk_at_big n a h h0 h63
  · rw [chk_at_step n a h h0 h63, List.drop_of_length_le (by rw [bl_length]; omega)]
    rfl

/-- What comes of the document's Labels. -/
def LabelsEnd (n : ByteArray) (w : World) (e : Ending) (w' : World) : Prop :=
  ∃ v ls, e = .returned (.tuple #[v, .bool (Nm.okL (bl n))]) ∧ OwnsS w' w.heap.size v ls ∧ (Nm.okL (bl n) = true → ls = Nm.labelsL (bl n)) ∧ ls.length ≤ 255 ∧ Keeps w w'
theorem LabelsEnd.mk {n : ByteArray} {w w' : World} {v : Value} {b : Bool} (ls : List (List UInt8)) (hb : Nm.okL (bl n) = b) (h1 : OwnsS w' w.heap.size v ls) (h2 : Nm.okL (bl n) = true → ls = Nm.labelsL (bl n)) (h3 : ls.length ≤ 255) (h4 : Keeps w w') :
    LabelsEnd n w (.returned (.tuple #[v, .bool b])) w' := ⟨v, ls, by rw [hb], h1, h2, h3, h4⟩
theorem LabelsEnd.no {n : ByteArray} {w w' : World} (hb : Nm.okL (bl n) = false) (h4 : Keeps w w') :
    LabelsEnd n w (.returned (.tuple #[.slice none 0 0, .bool false])) w' := .mk [] hb (OwnsS.nil _ _) (fun h => by rw [hb] at h; simp at h) (by simp) h4

set_option maxHeartbeats 800000 in
theorem reflabels_any (n : ByteArray) (w : World) (hn : n.size ≤ maxLen) :
    Calls Try.prog 126 #[.string n] w fun e w' => LabelsEnd n w e w' := by
  unfold maxLen at hn
  by_cases hl0 : (n.size : Int) < 1
  · have HO : Hid (Nm.okL (bl n) = false) := by
      have : bl n = [] := List.length_eq_zero_iff.1 (by rw [bl_length]; omega)
      unfold Hid; rw [this]; rfl
    go_enter Try.func126, Try.ntmps126
    go_wp2
    go_ret2
    exact LabelsEnd.no HO.out (Keeps.refl _)
  by_cases hl : 255 < (n.size : Int)
  · have HO : Hid (Nm.okL (bl n) = false) := by simp [Hid, Nm.okL, bl_length]; omega
    go_enter Try.func126, Try.ntmps126
    go_wp2
    go_ret2
    exact LabelsEnd.no HO.out (Keeps.refl _)
  have hok : Nm.okL (bl n) = Nm.chk (n.size + 1) (bl n) := by simp [Nm.okL, bl_length]; omega
  have hlb : Nm.labelsL (bl n) = Nm.labs (n.size + 1) (bl n) := by rw [Nm.labelsL, bl_length]
  have HO := hide hok
  have HLB := hide hlb
  clear hok hlb
  go_enter Try.func126, Try.ntmps126
  go_wp2
  go_loopw [4, 5] (fun v i wr => ∃ (a : Nat) (ds : List (List UInt8)), a ≤ n.size ∧ ds.length ≤ a ∧ i = .int .i64 a ∧ OwnsS wr w.heap.size v ds ∧ Nm.chk (n.size + 1) (bl n) = Nm.chk (n.size + 1) ((bl n).drop a) ∧ Nm.labs (n.size + 1) (bl n) = ds ++ Nm.labs (n.size + 1) ((bl n).drop a) ∧ Below w.heap.size w wr) (fun _ i _ => n.size - (intOf i).toNat)
  case atStart => exact ⟨0, [], by omega, by simp, rfl, OwnsS.nil _ _, rfl, rfl, Below.refl _ _⟩
  case round =>
    obtain ⟨a, ds, ha, hda, rfl, hown, hchk, hlab, hbel⟩ := hrel
    have HC := hide hchk
    have HL := hide hlab
    clear hchk hlab
    have hsb := hbel.size
    by_cases hlt : a < n.size
    · have hc := UInt8.toNat_lt n[a]
      by_cases h0 : n[a] = 0
      · have z : ((n[a].toNat : Int) == 0) = true := by rw [h0]; rfl
        have E := hide (chk_at_zero n a hlt h0)
        have F := hide (labs_at_zero n a hlt h0)
        clear h0
        go_wp2
        go_ret2
        exact LabelsEnd.mk ds (by rw [HO.out, HC.out, E.out]) hown (fun _ => by rw [HLB.out, HL.out, F.out]; simp) (by omega) hbel
      · have z : ((n[a].toNat : Int) == 0) = false := by
          have := u8_ne.2 h0
          simpa [bne] using this
        by_cases h63 : (63 : Int) < n[a].toNat
        · have E := hide (chk_at_big n a hlt h0 h63)
          clear h0
          go_wp2
          go_ret2
          exact LabelsEnd.no (by rw [HO.out, HC.out, E.out]) hbel
        · by_cases hcut : (n.size : Int) - a ≤ n[a].toNat
          · have E := hide (chk_at_cut n a hlt h0 hcut)
            clear h0
            go_wp2
            go_ret2
            exact LabelsEnd.no (by rw [HO.out, HC.out, E.out]) hbel
          · have E := hide (chk_at_step n a hlt h0 h63)
            have F := hide (labs_at_step n a hlt h0)
            have hp := Nm.toNat_pos h0
            clear h0
            go_wp2_with (at_builtin; refine wpList_appS _ rfl _ _ rfl w.heap.size _ _ rfl (hown.alloc _) _ _ (bl (n.extract (a + 1) (a + 1 + n[a].toNat))) rfl ?c1 ?c2 ?c3 ?_)
            case c1 => first | exact cell_str _ _ _ | exact (sv_bl _).symm
            case c2 => omega
            case c3 => first | omega | (simp; omega)
            intro v' w2 hown' hb' _
            have hbel' := (hbel.alloc hsb _).trans hb'
            clear hb' hown hbel
            go_wp2
            go_roundw
            case rel => exact ⟨a + 1 + n[a].toNat, _, by omega, by simp; omega, by go_num, hown', by rw [HC.out, E.out, Nat.add_assoc], by rw [HL.out, F.out]; simp, hbel'⟩
            case measure => simp [intOf]; omega
    · have E := hide (chk_at_end n a hlt)
      have G : Hid (Nm.okL (bl n) = false) := by
        unfold Hid; rw [HO.out, HC.out, E.out, beq_eq_false_iff_ne]; omega
      go_wp2
      go_ret2
      exact LabelsEnd.no G.out hbel

theorem refcheck_any (n : ByteArray) (w : World) (hn : n.size ≤ maxLen) :
    Calls Try.prog 102 #[.string n] w fun e w' => e = .returned (.bool (Nm.okL (bl n))) ∧ Keeps w w' := by
  go_enter Try.func102, Try.ntmps102
  go_wp2_with fail
  refine (reflabels_any _ _ hn).mono ?_
  rintro e w1 ⟨v, ls, rfl, _, _, _, k1⟩
  go_wp2
  go_ret
  exact ⟨rfl, k1⟩

theorem u8wrap (x : Int) (h1 : 0 ≤ x) (h2 : x ≤ 255) : IntKind.u8.wrap x = x := by rw [IntKind.wrap_u8]; omega

set_option maxHeartbeats 800000 in
theorem small_any (n : ByteArray) (w : World) (hn : n.size ≤ maxLen) :
    Calls Try.prog 127 #[.string n] w fun e w' => e = .returned (.string ⟨(Nm.lowL (bl n)).toArray⟩) ∧ Keeps w w' := by
  unfold maxLen at hn
  have hcv2 := fun w => run_bytes_of_string (P := Try.prog) w 9 180 5 n Try.underlying9 Try.underlying180 Try.underlying5
  go_enter Try.func127, Try.ntmps127
  go_wp2
  clear hcv2
  generalize hcap : grownCap w n.size 0 5 = cap
  clear hcap
  go_loopw [4] (fun i wr => ∃ p : Nat, p ≤ n.size ∧ i = .int .i64 p ∧ Row wr w.heap.size (half (bl n) p) ∧ Below w.heap.size w wr) (fun i _ => n.size - (intOf i).toNat)
  case atStart => exact ⟨0, Nat.zero_le _, rfl, by rw [half_zero]; exact (Row.made w n cap).drew, ((Below.refl _ _).alloc (Nat.le_refl _) _).drew⟩
  case round =>
    obtain ⟨p, hp, rfl, hrow, hbel⟩ := hrel
    have hlen := half_length (bl n) p
    rw [bl_length] at hlen
    by_cases hlt : p < n.size
    · have hb := UInt8.toNat_lt n[p]
      have hcell : wr.cell? ⟨w.heap.size, p, none⟩ = some (.int .u8 (n[p].toNat : Int)) := by
        rw [hrow.cell p (by omega)]
        have e : (half (bl n) p)[p]'(by omega) = n[p] := by
          have := half_get (bl n) p p
          rw [List.getElem?_eq_getElem (by omega), List.getElem?_eq_getElem (by rw [bl_length]; exact hlt)] at this
          simp at this
          exact this
        rw [e]; rfl
      have hf := hrow.free p (by omega)
      by_cases hA : 65 ≤ n[p].toNat ∧ n[p].toNat ≤ 90
      · obtain ⟨hA1, hA2⟩ := hA
        have hst := half_set (bl n) p (by rw [bl_length]; exact hlt)
        have hR2 := hrow.set p (Nm.lowB n[p]) (by omega)
        rw [show Nm.lowB n[p] = Nm.lowB ((bl n)[p]'(by rw [bl_length]; exact hlt)) from rfl, hst] at hR2
        rw [show Nm.lowB ((bl n)[p]'(by rw [bl_length]; exact hlt)) = Nm.lowB n[p] from rfl, lowB_up n[p] hA1 hA2, show (n[p].toNat : Int) - 65 + 97 = (n[p].toNat : Int) + 32 by omega] at hR2
        have HR2 := hide hR2
        have h65 : (65 : Int) ≤ n[p].toNat := by omega
        have h90 : (n[p].toNat : Int) ≤ 90 := by omega
        clear hR2 hst hrow
        go_wp2
        go_roundw
        case rel => exact ⟨p + 1, by omega, by go_num, HR2.out, hbel.setCell (Nat.le_refl _) _⟩
        case measure => simp [intOf]; omega
      · have hk := half_keep (bl n) p (p + 1) (by omega) (fun i hi a b => by
          obtain rfl : i = p := by omega
          exact lowB_keep n[i] hA)
        have HK := hide hk
        have hR : ¬ ((65 : Int) ≤ n[p].toNat ∧ (n[p].toNat : Int) ≤ 90) := by omega
        clear hk hA
        by_cases h65 : (65 : Int) ≤ n[p].toNat
        · have h90 : ¬ (n[p].toNat : Int) ≤ 90 := fun e => hR ⟨h65, e⟩
          clear hR
          go_wp2
          go_roundw
          case rel => exact ⟨p + 1, by omega, by go_num, by rw [HK.out]; exact hrow, hbel⟩
          case measure => simp [intOf]; omega
        · clear hR
          go_wp2
          go_roundw
          case rel => exact ⟨p + 1, by omega, by go_num, by rw [HK.out]; exact hrow, hbel⟩
          case measure => simp [intOf]; omega
    · have hcv := hrow.conv n.size cap (by rw [half_length, bl_length])
      have HF := hide (half_all (bl n) p (by rw [bl_length]; omega))
      go_wp2
      go_ret
      exact ⟨ret_str (by rw [HF.out]), hbel⟩

theorem reflow_any (n : ByteArray) (w : World) (hn : n.size ≤ maxLen) :
    Calls Try.prog 103 #[.string n] w fun e w' => e = .returned (.string (lowS n)) ∧ Keeps w w' := by
  by_cases h : Nm.okL (bl n) = true
  · have HF : Hid (lowS n = ⟨(Nm.lowL (bl n)).toArray⟩) := by simp [lowS, h, Hid]
    go_enter Try.func103, Try.ntmps103
    go_wp2_with fail
    refine (refcheck_any _ _ hn).mono ?_
    rintro e w1 ⟨rfl, k1⟩
    rw [h]
    go_wp2_with fail
    refine (small_any _ _ hn).mono ?_
    rintro e w2 ⟨rfl, k2⟩
    go_wp2
    go_ret
    exact ⟨ret_str HF.out.symm, k1.trans k2⟩
  · have HF : Hid (lowS n = ⟨#[]⟩) := by simp [lowS, h, Hid]
    simp only [Bool.not_eq_true] at h
    go_enter Try.func103, Try.ntmps103
    go_wp2_with fail
    refine (refcheck_any _ _ hn).mono ?_
    rintro e w1 ⟨rfl, k1⟩
    rw [h]
    go_wp2
    go_ret
    exact ⟨ret_str HF.out.symm, k1⟩

end Go.Proofs.Ytdlaepfnogmebaa

namespace Go.Proofs.Ytdlaepfnogmebaa
open Go.RowKit

theorem joinOk_end (ls : List (List UInt8)) (h1 : ls.all Nm.sizeOk = true) : Nm.joinOk ls = decide ((flat ls).length + 1 ≤ 255) := by
  simp only [Nm.joinOk, h1, Bool.true_and]
  rw [joinL_flat, List.length_append, List.length_singleton]
theorem joinOk_over (ls : List (List UInt8)) (j : Nat) (hb : 255 < (flat (ls.take j)).length) : Nm.joinOk ls = false := by
  have h1 := flat_split ls j
  simp only [Nm.joinOk, Bool.and_eq_false_iff, decide_eq_false_iff_not]
  right
  rw [joinL_flat, List.length_append, List.length_singleton]
  omega

/-- Up is the join of all labels but the first. -/
theorem up_join (n : ByteArray) (h : Nm.okL (bl n) = true) (hr : bl n ≠ [0]) :
    Nm.joinOk (Nm.labelsL (bl n)).tail = true ∧ joinS (Nm.labelsL (bl n)).tail = upS n := by
  have hu := Nm.up1_ok h hr
  have e : (Nm.labelsL (bl n)).tail = Nm.labelsL (Nm.up1 (bl n)) := by rw [hu.2.2]; rfl
  have hj := Nm.ok_join _ hu.1
  rw [e]
  refine ⟨hj.2, ?_⟩
  apply bl_inj
  rw [joinS, if_pos hj.2, bl_mk, hj.1, upS, if_pos ⟨h, hr⟩, bl_from]
  rfl
theorem labels_root (n : ByteArray) (h : Nm.okL (bl n) = true) : (Nm.labelsL (bl n)).length = 0 ↔ bl n = [0] := by
  constructor
  · intro e
    apply Classical.byContradiction
    intro hr
    have hu := Nm.up1_ok h hr
    rw [hu.2.2] at e
    simp at e
  · intro e; rw [e]; rfl
theorem label_short (n : ByteArray) (h : Nm.okL (bl n) = true) (x : List UInt8) (hx : x ∈ Nm.labelsL (bl n)) : x.length ≤ 63 := by
  have h1 := Nm.labs_sizes ((Nm.okL_spec _).1 h).2
  rw [List.all_eq_true] at h1
  have := h1 x hx
  simp only [Nm.sizeOk, decide_eq_true_eq] at this
  exact this.2

end Go.Proofs.Ytdlaepfnogmebaa

namespace Go.Proofs.Ytdlaepfnogmebaa
open Go.RowKit

theorem in_same (l z : List UInt8) (h : Nm.sameB l z = true) : Nm.inB l z = true := by
  simp only [Nm.sameB, Bool.and_eq_true, beq_iff_eq] at h
  obtain ⟨⟨h1, h2⟩, h3⟩ := h
  simp only [Nm.inB, h1, h2, Bool.and_self, Bool.true_and, ← h3]
  have := Nm.anc_self (l := Nm.lowL l) (by rw [Nm.ok_low]; exact h1)
  rw [Nm.lowL_length] at this
  exact this
theorem in_step (l z : List UInt8) (h : Nm.okL l = true) (hr : l ≠ [0]) (hs : Nm.sameB l z = false) : Nm.inB l z = Nm.inB (Nm.up1 l) z := by
  have hu := Nm.up1_ok h hr
  by_cases hz : Nm.okL z = true
  · simp only [Nm.inB, h, hz, hu.1, Bool.and_self, Bool.true_and]
    have hne : Nm.lowL l ≠ Nm.lowL z := fun e => by simp [Nm.sameB, h, hz, e] at hs
    have := Nm.anc_step (l := Nm.lowL l) (z := Nm.lowL z) (by rw [Nm.ok_low]; exact h) (fun e => hr ((Nm.low_root l).1 e)) hne
    rw [Nm.up1_low h hr, Nm.lowL_length, Nm.lowL_length] at this
    exact this
  · simp [Nm.inB, hz]
theorem in_root (z : List UInt8) (hs : Nm.sameB [0] z = false) : Nm.inB [0] z = false := by
  by_cases hz : Nm.okL z = true
  · have h : Nm.okL [0] = true := rfl
    have hne : Nm.lowL [0] ≠ Nm.lowL z := fun e => by simp [Nm.sameB, h, hz, e] at hs
    simp only [Nm.inB, h, hz, Bool.and_self, Bool.true_and]
    exact Nm.anc_root hne
  · simp [Nm.inB, hz]
theorem in_no (l z : List UInt8) (h : Nm.okL l = false) : Nm.inB l z = false := by simp [Nm.inB, h]

def boolOf : Value → Bool | .bool b => b | _ => false
def mIn (s t : Value) : Nat := cond (boolOf t) ((strOf s).size + 1) 0

theorem texts_nil (a c : Option Addr) (ca cc n : Nat) (w : World) (h : n = 0) :
    Calls Try.prog 82 #[.slice a n ca, .slice c 0 cc] w fun e w' => e = .returned (.bool true) ∧ Keeps w w' := by
  subst h
  go_enter Try.func82, Try.ntmps82
  go_wp2
  refine wp_loop_rounds 1 ?_
  rw [rounds_succ]
  go_wp2
  go_ret
  exact ⟨rfl, Keeps.refl _⟩
theorem texts_len (a c : Option Addr) (ca cc n m : Nat) (w : World) (h : n ≠ m) :
    Calls Try.prog 82 #[.slice a n ca, .slice c m cc] w fun e w' => e = .returned (.bool false) ∧ Keeps w w' := by
  have hne : ((n : Int) != (m : Int)) = true := by rw [bne_iff_ne]; omega
  go_enter Try.func82, Try.ntmps82
  go_wp2
  go_ret
  exact ⟨rfl, Keeps.refl _⟩
theorem take_eq_step (la lb : List (List UInt8)) (j : Nat) (ha : j < la.length) (hb : j < lb.length) (h : la.take j = lb.take j) (e : la[j] = lb[j]) : la.take (j + 1) = lb.take (j + 1) := by
  rw [List.take_succ_eq_append_getElem ha, List.take_succ_eq_append_getElem hb, h, e]

set_option maxHeartbeats 800000 in
theorem texts_some (ba oa ca bb ob cb : Nat) (la lb : List (List UInt8)) (w : World) (hl : la.length = lb.length) (hm : la.length ≤ 1099511627776) (hba : ba < w.heap.size) (hbb : bb < w.heap.size)
    (hca : ∀ i (h : i < la.length), w.cell? ⟨ba, oa + i, none⟩ = some (sv la[i])) (hcb : ∀ i (h : i < lb.length), w.cell? ⟨bb, ob + i, none⟩ = some (sv lb[i])) :
    Calls Try.prog 82 #[.slice (some ⟨ba, oa, none⟩) la.length ca, .slice (some ⟨bb, ob, none⟩) lb.length cb] w fun e w' => e = .returned (.bool (la == lb)) ∧ Keeps w w' := by
  have HA := hide hca
  have HB := hide hcb
  have hne : ((la.length : Int) != (lb.length : Int)) = false := by rw [hl]; simp
  have HL := hide hl
  clear hca hcb hl
  go_enter Try.func82, Try.ntmps82
  go_wp2
  go_loopw [5] (fun i wr => ∃ j : Nat, j ≤ la.length ∧ i = .int .i64 j ∧ la.take j = lb.take j ∧ Below w.heap.size w wr) (fun i _ => la.length - (intOf i).toNat)
  case atStart => exact ⟨0, Nat.zero_le _, rfl, rfl, Below.refl _ _⟩
  case round =>
    obtain ⟨j, hj, rfl, hte, hbel⟩ := hrel
    have HT := hide hte
    clear hte
    by_cases hlt : j < la.length
    · have hltb : j < lb.length := by have := HL.out; omega
      have c1 : wr.cell? ⟨ba, oa + j, none⟩ = some (.string ⟨la[j].toArray⟩) := (hbel.cell (p := ⟨ba, oa + j, none⟩) hba).trans (HA.out j hlt)
      have c2 : wr.cell? ⟨bb, ob + j, none⟩ = some (.string ⟨lb[j].toArray⟩) := (hbel.cell (p := ⟨bb, ob + j, none⟩) hbb).trans (HB.out j hltb)
      have i1 : (j : Int) < (la.length : Int) := by omega
      have i2 : (j : Int) < (lb.length : Int) := by omega
      by_cases he : la[j] = lb[j]
      · have HS := hide (take_eq_step la lb j hlt hltb HT.out he)
        rw [he] at c1
        generalize (⟨lb[j].toArray⟩ : ByteArray) = X at *
        clear he
        go_wp2_with fail
        go_region
        go_wp2
        go_roundw
        case rel => exact ⟨j + 1, by omega, by go_num, HS.out, hbel.drew⟩
        case measure => simp [intOf]; omega
      · have e1 : ((⟨la[j].toArray⟩ : ByteArray).toList == (⟨lb[j].toArray⟩ : ByteArray).toList) = false := by
          rw [toList_bl, toList_bl, bl_mk, bl_mk]; simpa using he
        have HF : Hid ((la == lb) = false) := by
          unfold Hid
          rw [beq_eq_false_iff_ne]
          intro e
          subst e
          exact he rfl
        generalize (⟨la[j].toArray⟩ : ByteArray) = Y at *
        generalize (⟨lb[j].toArray⟩ : ByteArray) = X at *
        clear he
        go_wp2_with fail
        go_region
        go_wp2
        go_ret
        exact ⟨ret_bool HF.out.symm, hbel.drew⟩
    · have HF : Hid ((la == lb) = true) := by
        have h1 := HT.out
        rw [List.take_of_length_le (by omega), List.take_of_length_le (by have := HL.out; omega)] at h1
        unfold Hid
        rw [h1]
        simp
      go_wp2
      go_ret
      exact ⟨ret_bool HF.out.symm, hbel⟩

theorem texts_any (va vb : Value) (la lb : List (List UInt8)) (w : World) (ra : ReadS w va la) (rb : ReadS w vb lb) (hm : la.length ≤ 1099511627776) :
    Calls Try.prog 82 #[va, vb] w fun e w' => e = .returned (.bool (la == lb)) ∧ Keeps w w' := by
  by_cases hl : la.length = lb.length
  · by_cases h0 : 0 < la.length
    · obtain ⟨ba, oa, ca, rfl, hba, hca, _⟩ := ra.parts h0
      obtain ⟨bb, ob, cb, rfl, hbb, hcb, _⟩ := rb.parts (by omega)
      exact texts_some ba oa ca bb ob cb la lb w hl hm hba hbb hca hcb
    · obtain ⟨a, ca, rfl⟩ := ra.len
      obtain ⟨b, cb, rfl⟩ := rb.len
      obtain rfl : la = [] := List.length_eq_zero_iff.1 (by omega)
      obtain rfl : lb = [] := List.length_eq_zero_iff.1 (by omega)
      exact texts_nil a b ca cb 0 w rfl
  · obtain ⟨a, ca, rfl⟩ := ra.len
    obtain ⟨b, cb, rfl⟩ := rb.len
    have : (la == lb) = false := by rw [beq_eq_false_iff_ne]; intro e; subst e; exact hl rfl
    rw [this]
    exact texts_len a b ca cb _ _ w hl
end Go.Proofs.Ytdlaepfnogmebaa
