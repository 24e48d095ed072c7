/- What the document's Parse answers, for every input. -/
import Derived.Test.YtedelldhkjkghaaTextRef3
import Derived.Test.YtedelldhkjkghaaTextWalk4
namespace Go.Proofs.Ytedelldhkjkghaa
open Go.RowKit

/-- The labels that a text may tell. -/
def refL (t : ByteArray) : List (List UInt8) := (Nm.spa [] (bl t)).map Nm.labL
theorem join_ne_root (x : List UInt8) (xs : List (List UInt8)) : Nm.joinL (x :: xs) ≠ [0] := by
  intro h
  have := congrArg List.length h
  rw [(Nm.join_length (x :: xs)).2] at this
  simp at this
theorem text_join (L : List (List UInt8)) (h : Nm.joinOk L = true) (hn : L ≠ []) : textS (joinS L) = ⟨(Nm.textL L).toArray⟩ ∧ (Nm.textL L).length ≤ 1020 := by
  obtain ⟨h1, h2⟩ := Nm.joinOk_ok L h
  have e : joinS L = ⟨(Nm.joinL L).toArray⟩ := by unfold joinS; rw [if_pos h]
  have hr : Nm.joinL L ≠ [0] := by
    cases L with
    | nil => exact absurd rfl hn
    | cons x xs => exact join_ne_root x xs
  have hl := (Nm.join_length L).2
  have h255 := ((Nm.okL_spec _).1 h1).1
  have ht := textL_length L
  refine ⟨?_, by omega⟩
  unfold textS
  rw [e, bl_mk, if_pos h1, if_neg hr, h2]
theorem refL_ne (t : ByteArray) : refL t ≠ [] := by
  intro h
  have := congrArg List.length h
  have h2 := Nm.spa_pos [] (bl t)
  simp [refL] at this
  rw [this] at h2
  simp at h2
theorem parse_yes (t : ByteArray) (h0 : bl t ≠ [46]) (hj : Nm.joinOk (refL t) = true) (ht : textS (joinS (refL t)) = t) : parseO t = some (Nm.joinL (refL t)) := by
  obtain ⟨h1, h2⟩ := text_join _ hj (refL_ne t)
  rw [h1] at ht
  have hb : bl t = Nm.textL (refL t) := by rw [← ht, bl_mk, ht]
  have hs : Nm.splitO (bl t) = some (refL t) := by
    cases hL : refL t with
    | nil => exact absurd hL (refL_ne t)
    | cons x xs => rw [hb, hL]; exact Nm.split_text x xs
  have hz : t.size ≤ 1020 := by rw [← bl_length, hb]; exact h2
  unfold parseO
  rw [if_neg h0, if_neg (by omega), hs, Option.bind_some, if_pos hj]
theorem parse_no (t : ByteArray) (h0 : bl t ≠ [46]) (h : ¬ (Nm.joinOk (refL t) = true ∧ textS (joinS (refL t)) = t)) : parseO t = none := by
  unfold parseO
  rw [if_neg h0]
  split
  · rfl
  · cases hs : Nm.splitO (bl t) with
    | none => rfl
    | some M =>
      obtain ⟨hm, hn⟩ := Nm.text_split _ _ hs
      have hL : refL t = M := by
        unfold refL
        rw [← hm]
        cases M with
        | nil => exact absurd rfl hn
        | cons x xs =>
          rw [Nm.spa_text, List.map_map]
          have : (Nm.labL ∘ Nm.escL) = id := by funext l; exact Nm.labL_esc l
          rw [this, List.map_id]
      rw [Option.bind_some]
      by_cases hj : Nm.joinOk M = true
      · exfalso
        apply h
        rw [hL]
        refine ⟨hj, ?_⟩
        rw [(text_join M hj hn).1, hm]
        apply bl_inj
        rw [bl_mk]
      · rw [if_neg hj]

theorem mem_sum (ls : List (List UInt8)) (x : List UInt8) (h : x ∈ ls) : x.length + 1 ≤ (ls.map (fun x => x.length + 1)).sum := by
  induction ls with
  | nil => simp at h
  | cons y ls ih =>
    simp only [List.map_cons, List.sum_cons]
    rcases List.mem_cons.1 h with rfl | h
    · omega
    · have := ih h; omega
theorem spa_bounds (t : ByteArray) : (Nm.spa [] (bl t)).length ≤ t.size + 1 ∧ ∀ x ∈ Nm.spa [] (bl t), x.length ≤ t.size := by
  have h := Nm.spa_total [] (bl t)
  rw [bl_length, List.length_nil, Nat.zero_add] at h
  constructor
  · have : ∀ ls : List (List UInt8), ls.length ≤ (ls.map (fun x => x.length + 1)).sum := by
      intro ls
      induction ls with
      | nil => simp
      | cons y ls ih => simp only [List.map_cons, List.sum_cons, List.length_cons]; omega
    have := this (Nm.spa [] (bl t))
    omega
  · intro x hx
    have := mem_sum _ x hx
    omega
theorem refL_bounds (t : ByteArray) : (refL t).length ≤ t.size + 1 ∧ ∀ x ∈ refL t, x.length ≤ t.size := by
  have h := spa_bounds t
  refine ⟨by unfold refL; rw [List.length_map]; exact h.1, fun x hx => ?_⟩
  obtain ⟨y, hy, rfl⟩ := List.mem_map.1 hx
  have h1 := h.2 y hy
  have h2 := Nm.labF_length (y.length + 1) y
  unfold Nm.labL
  omega

/-- The pieces, the first j of them read. -/
def halfS (ls : List (List UInt8)) (j : Nat) : List (List UInt8) := (ls.take j).map Nm.labL ++ ls.drop j
theorem halfS_len (ls : List (List UInt8)) (j : Nat) : (halfS ls j).length = ls.length := by
  unfold halfS; rw [List.length_append, List.length_map, List.length_take, List.length_drop]; omega
theorem halfS_zero (ls : List (List UInt8)) : halfS ls 0 = ls := rfl
theorem halfS_all (ls : List (List UInt8)) (j : Nat) (h : ls.length ≤ j) : halfS ls j = ls.map Nm.labL := by
  unfold halfS; rw [List.take_of_length_le h, List.drop_of_length_le h, List.append_nil]
theorem halfS_get (ls : List (List UInt8)) (j : Nat) (h : j < ls.length) : (halfS ls j)[j]? = some ls[j] := by
  unfold halfS
  rw [List.getElem?_append_right (by rw [List.length_map, List.length_take]; omega), List.length_map, List.length_take, show j - min j ls.length = 0 by omega]
  rw [List.getElem?_drop]
  simp [h]
theorem halfS_set (ls : List (List UInt8)) (j : Nat) (h : j < ls.length) : (halfS ls j).set j (Nm.labL ls[j]) = halfS ls (j + 1) := by
  unfold halfS
  have hl : ((ls.take j).map Nm.labL).length = j := by rw [List.length_map, List.length_take]; omega
  rw [List.set_append_right _ _ (by omega), hl, Nat.sub_self, List.drop_eq_getElem_cons h, List.set_cons_zero]
  rw [List.take_succ_eq_append_getElem h, List.map_append]
  simp

theorem OwnsS.set {w : World} {B g n cap : Nat} {ls : List (List UInt8)} (h : OwnsS w B (.slice (some ⟨g, 0, none⟩) n cap) ls) (hn : ls.length = n) (j : Nat) (y : List UInt8) :
    OwnsS (w.setCell ⟨g, j, none⟩ (sv y)) B (.slice (some ⟨g, 0, none⟩) n cap) (ls.set j y) := by
  subst hn
  have := (World.ownsRow.stored h j (sv y)).1
  unfold OwnsS
  rw [List.length_set, List.map_set]
  exact this
theorem OwnsS.at {w : World} {B g n cap : Nat} {ls : List (List UInt8)} (h : OwnsS w B (.slice (some ⟨g, 0, none⟩) n cap) ls) (hn : ls.length = n) (j : Nat) (hj : j < n) (y : List UInt8) (hy : ls[j]? = some y) :
    w.cell? ⟨g, j, none⟩ = some (sv y) ∧ w.frozen? ⟨g, j, none⟩ = false ∧ B ≤ g := by
  subst hn
  refine ⟨?_, World.ownsRow.frozenAt h j, ?_⟩
  · rw [World.ownsRow.cellAt h j (by omega), List.getElem?_map, hy]; rfl
  · rcases h.2 with ⟨h', _⟩ | ⟨g', cap', cur, h', hb, _⟩
    · cases h'
    · simp only [Value.slice.injEq, Option.some.injEq, Addr.mk.injEq, and_true, true_and] at h'
      omega
theorem OwnsS.shape {w : World} {B : Nat} {v : Value} {ls : List (List UInt8)} (h : OwnsS w B v ls) (hp : 0 < ls.length) : ∃ g cap, v = .slice (some ⟨g, 0, none⟩) ls.length cap := by
  rcases h.2 with ⟨_, hn⟩ | ⟨g, cap, cur, rfl, _⟩
  · omega
  · exact ⟨g, cap, rfl⟩
end Go.Proofs.Ytedelldhkjkghaa
