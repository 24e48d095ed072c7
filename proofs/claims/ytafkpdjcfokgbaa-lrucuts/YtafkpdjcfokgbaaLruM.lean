/- Lists, by who was used last: mathematics; and how texts read, in two forms. No condition. -/
import Derived.Test.YtafkpdjcfokgbaaLruEI
import Derived.Test.YtafkpdjcfokgbaaLruET
namespace Go.Proofs.Ytafkpdjcfokgbaa
open Go.RowKit

theorem readS_row {w : World} {v : Value} {ls : List (List UInt8)} (h : ReadS w v ls) : ReadRow w v 1 (ls.map tv) := by
  by_cases hp : 0 < ls.length
  · obtain ⟨b, off, cap, rfl, hb, hc, hle⟩ := h.parts hp
    refine ⟨_, cap, by rw [List.length_map], by rw [List.length_map]; exact hle, fun _ => ⟨b, off, rfl, hb, fun i hi j hj => ?_⟩⟩
    rw [List.length_map] at hi
    obtain rfl : j = 0 := by omega
    rw [Nat.mul_one, Nat.add_zero, hc i hi]
    simp [tv]
  · obtain rfl : ls = [] := List.length_eq_zero_iff.1 (by omega)
    obtain ⟨a, cap, rfl⟩ := h.len
    exact ReadRow.nil
theorem row_readS {w : World} {v : Value} {ls : List (List UInt8)} (h : ReadRow w v 1 (ls.map tv)) : ReadS w v ls := by
  obtain ⟨a, cap, rfl, hle, hc⟩ := h
  rw [List.length_map] at hle ⊢
  refine ⟨a, cap, rfl, hle, fun i hi => ?_⟩
  obtain ⟨b, off, rfl, hb, hcell⟩ := hc (by rw [List.length_map]; omega)
  refine ⟨_, rfl, ?_⟩
  have := hcell i (by rw [List.length_map]; exact hi) 0 (by decide)
  rw [Nat.mul_one, Nat.add_zero] at this
  rw [add_none, this]
  simp [tv]
theorem touch_len {α : Type} [DecidableEq α] (l : List α) (k : α) : (Lr.touch l k).length ≤ l.length + 1 := by
  unfold Lr.touch
  rw [List.length_append]
  have := Lr.drop_len l k
  simp; omega
theorem drop_drop13 {α : Type} [DecidableEq α] (l : List α) (k : α) : Lr.drop (Lr.drop l k) k = Lr.drop l k := by
  unfold Lr.drop
  rw [List.filter_filter]
  congr 1
  funext x
  simp
theorem drop_mem {α : Type} [DecidableEq α] {l : List α} {k x : α} (h : x ∈ Lr.drop l k) : x ∈ l ∧ x ≠ k := by
  unfold Lr.drop at h
  rw [List.mem_filter] at h
  simpa using h
theorem drop_nodup {α : Type} [DecidableEq α] {l : List α} (k : α) (h : l.Nodup) : (Lr.drop l k).Nodup := by
  unfold Lr.drop
  exact List.Sublist.nodup List.filter_sublist h
/-- Where the j-th one stands in what is left. -/
theorem drop_at {α : Type} [DecidableEq α] (l : List α) (k : α) (j : Nat) (hj : j < l.length) (hne : l[j] ≠ k) :
    (Lr.drop (l.take j) k).length < (Lr.drop l k).length ∧ (Lr.drop l k)[(Lr.drop (l.take j) k).length]? = some l[j] := by
  have e : Lr.drop l k = Lr.drop (l.take j) k ++ (l[j] :: Lr.drop (l.drop (j + 1)) k) := by
    have h1 := (List.take_append_drop j l).symm
    rw [List.drop_eq_getElem_cons hj] at h1
    have h2 := congrArg (fun m => Lr.drop m k) h1
    rw [h2]
    unfold Lr.drop
    rw [List.filter_append, List.filter_cons, if_pos (by simpa using hne)]
  rw [e]
  refine ⟨by simp, ?_⟩
  rw [List.getElem?_append_right (Nat.le_refl _)]
  simp
theorem cut_cut {α : Type} (l : List α) (a b : Int) : (l.drop (Lr.cutAt l.length a)).drop (Lr.cutAt (l.drop (Lr.cutAt l.length a)).length b) = l.drop (Lr.cutAt l.length (min a b)) := by
  rw [List.drop_drop]
  congr 1
  have h1 := Lr.cutAt_val l.length a
  have h2 := Lr.cutAt_val (l.drop (Lr.cutAt l.length a)).length b
  have h3 := Lr.cutAt_val l.length (min a b)
  rw [List.length_drop] at h2 ⊢
  have := Lr.cutAt_le l.length a
  omega

/-- The order, as far as the list was gone through. -/
def ordL (l : List Int) : Nat → List Int
  | 0 => []
  | j + 1 => match l[j]? with | some x => Lr.touch (ordL l j) x | none => ordL l j
theorem ord_step (l : List Int) (j : Nat) (hj : j < l.length) : ordL l (j + 1) = Lr.touch (ordL l j) l[j] := by
  simp only [ordL, List.getElem?_eq_getElem hj]
theorem when_lt (l : List Int) (n : Int) : ∀ j, whenL l n j < (j : Int)
  | 0 => by simp [whenL]
  | j + 1 => by
    unfold whenL
    have := when_lt l n j
    split <;> omega
theorem when_hit (l : List Int) (j : Nat) (hj : j < l.length) : whenL l l[j] (j + 1) = (j : Int) := by
  unfold whenL
  rw [List.getElem?_eq_getElem hj, if_pos rfl]
theorem when_miss (l : List Int) (n : Int) (j : Nat) (hj : j < l.length) (h : n ≠ l[j]) : whenL l n (j + 1) = whenL l n j := by
  show (if l[j]? = some n then (j : Int) else whenL l n j) = whenL l n j
  rw [List.getElem?_eq_getElem hj, if_neg (by simpa using fun e => h e.symm)]
theorem ord_sorted (l : List Int) : ∀ j, j ≤ l.length → (ordL l j).Pairwise (fun a b => whenL l a j < whenL l b j)
  | 0, _ => List.Pairwise.nil
  | j + 1, hj => by
    have hlt : j < l.length := hj
    rw [ord_step l j hlt]
    have ih := ord_sorted l j (by omega)
    unfold Lr.touch
    rw [List.pairwise_append]
    refine ⟨?_, by simp, ?_⟩
    · have hs : (Lr.drop (ordL l j) l[j]).Pairwise (fun a b => whenL l a j < whenL l b j) := List.Pairwise.sublist List.filter_sublist ih
      refine List.Pairwise.imp_of_mem ?_ hs
      intro a b ha hb h
      rw [when_miss l a j hlt (drop_mem ha).2, when_miss l b j hlt (drop_mem hb).2]
      exact h
    · intro a ha b hb
      rw [List.mem_singleton] at hb
      subst hb
      rw [when_hit l j hlt, when_miss l a j hlt (drop_mem ha).2]
      exact when_lt l a j
theorem ord_nodup (l : List Int) (j : Nat) (hj : j ≤ l.length) : (ordL l j).Nodup := by
  refine List.Pairwise.imp ?_ (ord_sorted l j hj)
  intro a b h e
  subst e
  omega
theorem ord_len (l : List Int) : ∀ j, (ordL l j).length ≤ j
  | 0 => by simp [ordL]
  | j + 1 => by
    have := ord_len l j
    unfold ordL
    split
    · have := touch_len (ordL l j) (by assumption); omega
    · omega
theorem ord_mem (l : List Int) : ∀ j x, x ∈ ordL l j → x ∈ l
  | 0, x, h => by simp [ordL] at h
  | j + 1, x, h => by
    unfold ordL at h
    split at h
    · rename_i y hy
      unfold Lr.touch at h
      rw [List.mem_append, List.mem_singleton] at h
      rcases h with h | h
      · exact ord_mem l j x (drop_mem h).1
      · subst h
        exact List.mem_of_getElem? hy
    · exact ord_mem l j x h
theorem touch_last (l : List Int) (x : Int) : ∃ m : Nat, (Lr.touch l x).length = m + 1 ∧ (Lr.touch l x)[m]? = some x := by
  refine ⟨(Lr.drop l x).length, by simp [Lr.touch], by simp [Lr.touch]⟩
/-- Of what is cut each one ahead was used before each one left. -/
theorem ord_cut (l : List Int) (A i k : Nat) (hi : i < ((ordL l l.length).take A).length) (hk : k < ((ordL l l.length).drop A).length) :
    whenL l ((ordL l l.length).take A)[i] l.length < whenL l ((ordL l l.length).drop A)[k] l.length := by
  have h := ord_sorted l l.length (Nat.le_refl _)
  rw [← List.take_append_drop A (ordL l l.length), List.pairwise_append] at h
  exact h.2.2 _ (List.getElem_mem hi) _ (List.getElem_mem hk)
end Go.Proofs.Ytafkpdjcfokgbaa
