/- Plain functions on bytes: how the document splits a text, and reads a label. No condition. -/
import Derived.Test.YtedelldhkjkghaaTextMath
namespace Go.Proofs.Ytedelldhkjkghaa.Nm

/-- The pieces between dots; cur stands ahead. -/
def spa (cur : List UInt8) : List UInt8 → List (List UInt8)
  | [] => [cur]
  | x :: r => if x = 46 then cur :: spa [] r else spa (cur ++ [x]) r
def val3 (a b c : UInt8) : UInt8 := (a - 48) * 100 + (b - 48) * 10 + (c - 48)
/-- A label of its text, as the document reads it: by fuel. -/
def labF : Nat → List UInt8 → List UInt8
  | 0, _ => []
  | _ + 1, [] => []
  | f + 1, x :: r => if x = 92 ∧ 3 ≤ r.length then val3 (r.getD 0 0) (r.getD 1 0) (r.getD 2 0) :: labF f (r.drop 3) else x :: labF f r
def labL (l : List UInt8) : List UInt8 := labF (l.length + 1) l

theorem spa_pos (cur l : List UInt8) : 0 < (spa cur l).length := by
  induction l generalizing cur with
  | nil => simp [spa]
  | cons x l ih => simp only [spa]; split <;> simp [ih]
theorem labF_fuel : ∀ (f g : Nat) (l : List UInt8), l.length < f → l.length < g → labF f l = labF g l
  | 0, _, _, h, _ => by omega
  | _ + 1, 0, _, _, h => by omega
  | f + 1, g + 1, [], _, _ => rfl
  | f + 1, g + 1, x :: r, h1, h2 => by
    simp only [labF]
    have hd : (r.drop 3).length ≤ r.length := by simp
    simp only [List.length_cons] at h1 h2
    rw [labF_fuel f g (r.drop 3) (by omega) (by omega), labF_fuel f g r (by omega) (by omega)]
theorem spa_nodot (x : List UInt8) (h : ∀ c ∈ x, c ≠ 46) (cur r : List UInt8) : spa cur (x ++ r) = spa (cur ++ x) r := by
  induction x generalizing cur with
  | nil => simp
  | cons c x ih =>
    simp only [List.cons_append, spa, if_neg (h c (List.mem_cons_self ..))]
    rw [ih (fun y hy => h y (List.mem_cons_of_mem _ hy))]
    simp
theorem escB_nodot (c : UInt8) : ∀ y ∈ escB c, y ≠ 46 := by
  intro y hy
  unfold escB at hy
  split at hy
  · rename_i hp
    obtain rfl := List.mem_singleton.1 hy
    exact (plain_ne _ hp).2
  · obtain ⟨e1, e2, e3⟩ := esc4_parts c
    simp only [esc4, List.mem_cons, List.not_mem_nil, or_false] at hy
    rcases hy with rfl | rfl | rfl | rfl
    · decide
    · intro e; rw [e] at e1; simp at e1; omega
    · intro e; rw [e] at e2; simp at e2; omega
    · intro e; rw [e] at e3; simp at e3; omega
theorem escL_nodot (l : List UInt8) : ∀ y ∈ escL l, y ≠ 46 := by
  intro y hy
  obtain ⟨c, _, hc⟩ := List.mem_flatMap.1 hy
  exact escB_nodot c y hc
theorem spa_rest (xs : List (List UInt8)) (cur : List UInt8) : spa cur (xs.flatMap (fun y => 46 :: escL y)) = cur :: xs.map escL := by
  induction xs generalizing cur with
  | nil => rfl
  | cons x xs ih =>
    simp only [List.flatMap_cons, List.cons_append, spa, if_true, List.map_cons]
    rw [spa_nodot (escL x) (escL_nodot x), List.nil_append, ih]
theorem spa_text (x : List UInt8) (xs : List (List UInt8)) : spa [] (textL (x :: xs)) = (x :: xs).map escL := by
  simp only [textL, List.map_cons]
  rw [spa_nodot (escL x) (escL_nodot x), List.nil_append, spa_rest]
theorem sub48 (a : Nat) (_ : a < 10) : UInt8.ofNat (48 + a) - 48 = UInt8.ofNat a := by
  apply UInt8.toNat_inj.1
  rw [UInt8.toNat_sub, UInt8.toNat_ofNat', UInt8.toNat_ofNat']
  simp
  omega
theorem val3_esc (c : UInt8) : val3 (UInt8.ofNat (48 + c.toNat / 100)) (UInt8.ofNat (48 + c.toNat / 10 % 10)) (UInt8.ofNat (48 + c.toNat % 10)) = c := by
  have hc := UInt8.toNat_lt c
  unfold val3
  rw [sub48 _ (by omega), sub48 _ (by omega), sub48 _ (by omega)]
  apply UInt8.toNat_inj.1
  have h : c.toNat = c.toNat / 100 * 100 + c.toNat / 10 % 10 * 10 + c.toNat % 10 := by omega
  generalize c.toNat / 100 = x at *
  generalize c.toNat / 10 % 10 = y at *
  generalize c.toNat % 10 = z at *
  rw [UInt8.toNat_add, UInt8.toNat_add, UInt8.toNat_mul, UInt8.toNat_mul, UInt8.toNat_ofNat', UInt8.toNat_ofNat', UInt8.toNat_ofNat']
  rw [show (100 : UInt8).toNat = 100 from rfl, show (10 : UInt8).toNat = 10 from rfl]
  omega
theorem labF_escB (c : UInt8) (r : List UInt8) (f : Nat) (h : (escB c ++ r).length < f) : labF f (escB c ++ r) = c :: labF (r.length + 1) r := by
  obtain ⟨g, rfl⟩ : ∃ g, f = g + 1 := ⟨f - 1, by omega⟩
  unfold escB at h ⊢
  split
  · rename_i hp
    rw [if_pos hp] at h
    have hn := (plain_ne _ hp).1
    simp only [List.cons_append, List.nil_append, labF]
    rw [if_neg (by simp [hn])]
    simp only [List.cons_append, List.nil_append, List.length_cons] at h
    rw [labF_fuel g (r.length + 1) r (by omega) (by omega)]
  · rename_i hp
    rw [if_neg hp] at h
    simp only [esc4, List.cons_append, List.nil_append, labF]
    rw [if_pos (by simp)]
    simp only [esc4, List.cons_append, List.nil_append, List.length_cons] at h
    have e : ∀ (p q s : UInt8) (r : List UInt8), (p :: q :: s :: r).drop 3 = r := fun _ _ _ _ => rfl
    rw [e, labF_fuel g (r.length + 1) r (by omega) (by omega)]
    congr 1
    exact val3_esc c
/-- A label's text is read as it. -/
theorem labL_esc (l : List UInt8) : labL (escL l) = l := by
  unfold labL
  induction l with
  | nil => rfl
  | cons c l ih =>
    have e : escL (c :: l) = escB c ++ escL l := by simp [escL]
    rw [e, labF_escB c (escL l) _ (by omega), ih]
theorem labF_length : ∀ (f : Nat) (l : List UInt8), (labF f l).length ≤ l.length
  | 0, _ => by simp [labF]
  | _ + 1, [] => by simp [labF]
  | f + 1, x :: r => by
    simp only [labF]
    split
    · have := labF_length f (r.drop 3)
      simp only [List.length_cons, List.length_drop] at this ⊢
      omega
    · have := labF_length f r
      simp only [List.length_cons] at this ⊢
      omega
theorem spa_total (cur l : List UInt8) : ((spa cur l).map (fun x => x.length + 1)).sum = cur.length + l.length + 1 := by
  induction l generalizing cur with
  | nil => simp [spa]
  | cons x l ih =>
    simp only [spa]
    split
    · simp only [List.map_cons, List.sum_cons, ih, List.length_nil, List.length_cons]; omega
    · rw [ih, List.length_append]; simp; omega
end Go.Proofs.Ytedelldhkjkghaa.Nm
