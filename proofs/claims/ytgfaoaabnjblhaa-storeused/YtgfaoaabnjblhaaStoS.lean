/- StoreUsed, the mathematics: a store that is filled, one that is got, then others put: who was got last is the last one to be dropped. -/
import Derived.Test.YtgfaoaabnjblhaaStoM
namespace Go.Proofs.Ytgfaoaabnjblhaa.Us
open Go.RowKit

/-- An item of number j, that was put at 'now' (of time to live 99). -/
def itK (K : Nat → St) (u : Int) (j : Nat) : It := ⟨K j, u, 3⟩
def fill (K : Nat → St) (n : Nat) : List It := (List.range n).map (itK K 99)
/-- All but one of the first ones. -/
def oth (room at_ : Nat) : List Nat := (List.range room).filter (fun j => decide (j ≠ at_))
/-- The store behind i more. -/
def more (K : Nat → St) (room at_ i : Nat) : List It := ((oth room at_).drop i).map (itK K 99) ++ itK K 99 at_ :: (List.range i).map (fun j => itK K 100 (room + j))

theorem oth_len' (at_ : Nat) : ∀ n, (oth n at_).length + (if at_ < n then 1 else 0) = n
  | 0 => by simp [oth]
  | n + 1 => by
    have ih := oth_len' at_ n
    unfold oth at ih ⊢
    rw [List.range_succ, List.filter_append, List.length_append]
    by_cases h2 : n = at_
    · subst h2
      rw [if_neg (by omega)] at ih
      rw [if_pos (by omega)]
      simp at ih ⊢
      omega
    · have e : (List.filter (fun j => decide (j ≠ at_)) [n]).length = 1 := by simp [h2]
      rw [e]
      by_cases h1 : at_ < n
      · rw [if_pos h1] at ih
        rw [if_pos (by omega)]
        omega
      · rw [if_neg h1] at ih
        rw [if_neg (by omega)]
        omega
theorem oth_len {room at_ : Nat} (h : at_ < room) : (oth room at_).length + 1 = room := by
  have := oth_len' at_ room
  rw [if_pos h] at this
  exact this
theorem mem_oth {room at_ j : Nat} (h : j ∈ oth room at_) : j < room ∧ j ≠ at_ := by
  unfold oth at h
  rw [List.mem_filter] at h
  simp at h
  exact h
/-- What keys are apart. -/
def Inj (K : Nat → St) (n : Nat) : Prop := ∀ i j, i < n → j < n → (K i).key = (K j).key → i = j

theorem fill_none {K : Nat → St} {n i : Nat} (hK : Inj K n) (h : i < n) : Sto.find (fill K i) (K i).key = none := by
  rw [Sto.find_none]
  intro hm
  unfold Sto.keysL fill at hm
  simp only [List.map_map, List.mem_map, List.mem_range, Function.comp, itK] at hm
  obtain ⟨j, hj, e⟩ := hm
  have := hK j i (by omega) h e
  omega
theorem without_none {l : List It} {q : Qn} (h : Sto.find l q = none) : Sto.without l q = l := by
  unfold Sto.without
  rw [List.filter_eq_self]
  intro i hi
  rw [Sto.find_none] at h
  simp only [ne_eq, decide_not, Bool.not_eq_eq_eq_not, Bool.not_true, decide_eq_false_iff_not]
  intro e
  exact h (List.mem_map.2 ⟨i, hi, e⟩)
/-- What is put of a key that is not there. -/
theorem put_new (s : Sto) (now : Int) (x : St) (hT : Ag.isT now = true) (hx : stOk x = true) (hl : Ag.live now (Ag.till now x.ttl) = true) (h : Sto.find s.items x.key = none) :
    Sto.putE s now x 3 = 0 ∧ Sto.put s now x 3 = ⟨s.room, Sto.cut (s.items ++ [⟨x, Ag.till now x.ttl, 3⟩]) s.room, s.changes + 1⟩ := by
  have hr : Rk.isR 3 = true := by decide
  have hE : Sto.putE s now x 3 = 0 := by
    unfold Sto.putE
    rw [hT, hx, hr, if_pos (show (true && true && true) = true from rfl), if_pos hl, h]
  refine ⟨hE, ?_⟩
  unfold Sto.put
  rw [if_pos hE, without_none h]
theorem cut_few {l : List It} {n : Nat} (h : l.length ≤ n) : Sto.cut l n = l := by
  unfold Sto.cut Lr.cutAt
  have : l.length - (min (max (n : Int) 0) l.length).toNat = 0 := by omega
  rw [this, List.drop_zero]
theorem cut_one {l : List It} {n : Nat} (h : l.length = n + 1) : Sto.cut l n = l.drop 1 := by
  unfold Sto.cut Lr.cutAt
  have : l.length - (min (max (n : Int) 0) l.length).toNat = 1 := by omega
  rw [this]
/-- The i-th of the first ones. -/
theorem put_fill {K : Nat → St} {room n i : Nat} (hK : Inj K n) (hn : room ≤ n) (hi : i < room) (hok : stOk (K i) = true) (ht : (K i).ttl = 99) :
    Sto.putE ⟨room, fill K i, i⟩ 0 (K i) 3 = 0 ∧ Sto.put ⟨room, fill K i, i⟩ 0 (K i) 3 = ⟨room, fill K (i + 1), (i + 1 : Nat)⟩ := by
  obtain ⟨h1, h2⟩ := put_new ⟨room, fill K i, i⟩ 0 (K i) (by decide) hok (by rw [ht]; decide) (fill_none hK (by omega))
  refine ⟨h1, h2.trans ?_⟩
  rw [ht, show Ag.till 0 99 = 99 from by decide]
  have e : fill K (i + 1) = fill K i ++ [⟨K i, 99, 3⟩] := by unfold fill; rw [List.range_succ, List.map_append]; rfl
  rw [cut_few (by unfold fill; simp; omega), e]
  simp
theorem find_map {K : Nat → St} {n : Nat} (hK : Inj K n) {u : Int} : ∀ (l : List Nat) (_ : ∀ j ∈ l, j < n) {i : Nat}, i < n → Sto.find (l.map (itK K u)) (K i).key = if i ∈ l then some (itK K u i) else none
  | [], _, i, _ => rfl
  | j :: l, hl, i, hi => by
    have ih := find_map hK (u := u) l (fun x hx => hl x (by simp [hx])) hi
    unfold Sto.find at ih ⊢
    rw [List.map_cons, List.find?_cons]
    by_cases e : j = i
    · subst e
      simp [itK]
    · have : ¬ (K j).key = (K i).key := fun h => e (hK j i (hl j (by simp)) hi h)
      have hne : ¬ i = j := fun h => e h.symm
      simp only [itK, this, decide_false, List.mem_cons, hne, false_or]
      exact ih
theorem without_map {K : Nat → St} {n : Nat} (hK : Inj K n) {u : Int} {l : List Nat} (hl : ∀ j ∈ l, j < n) {i : Nat} (hi : i < n) : Sto.without (l.map (itK K u)) (K i).key = (l.filter (fun j => decide (j ≠ i))).map (itK K u) := by
  unfold Sto.without
  rw [List.filter_map]
  congr 1
  apply List.filter_congr
  intro j hj
  by_cases e : j = i
  · subst e; simp [itK]
  · have : ¬ (K j).key = (K i).key := fun h => e (hK j i (hl j hj) hi h)
    simp [itK, this, e]
/-- What is got of the full store. -/
theorem get_fill {K : Nat → St} {room n at_ : Nat} (hK : Inj K n) (hn : room ≤ n) (ha : at_ < room) (c : Int) :
    Sto.peek ⟨room, fill K room, c⟩ 1 (K at_).key = some (itK K 99 at_) ∧ Sto.get ⟨room, fill K room, c⟩ 1 (K at_).key = ⟨room, more K room at_ 0, c⟩ := by
  have hp : Sto.peek ⟨room, fill K room, c⟩ 1 (K at_).key = some (itK K 99 at_) := by
    unfold Sto.peek fill
    rw [find_map hK _ (fun j hj => by rw [List.mem_range] at hj; omega) (by omega), if_pos (List.mem_range.2 ha)]
    rfl
  refine ⟨hp, ?_⟩
  unfold Sto.get
  rw [hp]
  simp only
  unfold fill more oth
  rw [without_map hK (fun j hj => by rw [List.mem_range] at hj; omega) (by omega)]
  simp
theorem more_len {K : Nat → St} {room at_ i : Nat} (ha : at_ < room) (hi : i < room) : (more K room at_ i).length = room := by
  have := oth_len ha
  unfold more
  simp
  omega
theorem find_more {K : Nat → St} {room n at_ i : Nat} (hK : Inj K n) (ha : at_ < room) (hn : room + i ≤ n) : Sto.find (more K room at_ i) (K at_).key = some (itK K 99 at_) := by
  unfold more
  rw [Sto.find_append, find_map hK _ (fun j hj => by have := (mem_oth (List.mem_of_mem_drop hj)).1; omega) (by omega), if_neg (fun h => (mem_oth (List.mem_of_mem_drop h)).2 rfl)]
  unfold Sto.find
  simp [itK]
theorem new_more {K : Nat → St} {room n at_ i j : Nat} (hK : Inj K n) (ha : at_ < room) (hj : room + i ≤ j) (hjn : j < n) : Sto.find (more K room at_ i) (K j).key = none := by
  rw [Sto.find_none]
  intro hm
  unfold more Sto.keysL at hm
  simp only [List.map_append, List.map_map, List.map_cons, List.mem_append, List.mem_map, List.mem_cons, Function.comp, itK, List.mem_range] at hm
  rcases hm with ⟨k, hk, e⟩ | e | ⟨k, hk, e⟩
  · have h1 := (mem_oth (List.mem_of_mem_drop hk)).1
    have := hK k j (by omega) hjn e
    omega
  · have := hK j at_ hjn (by omega) e
    omega
  · have := hK (room + k) j (by omega) hjn e
    omega
/-- One more of the full store. -/
theorem put_more {K : Nat → St} {room n at_ i : Nat} (hK : Inj K n) (hn : room + i < n) (ha : at_ < room) (hi : i + 1 < room) (c : Int) (hok : stOk (K (room + i)) = true) (ht : (K (room + i)).ttl = 99) :
    Sto.putE ⟨room, more K room at_ i, c⟩ 1 (K (room + i)) 3 = 0 ∧ Sto.put ⟨room, more K room at_ i, c⟩ 1 (K (room + i)) 3 = ⟨room, more K room at_ (i + 1), c + 1⟩ := by
  obtain ⟨h1, h2⟩ := put_new ⟨room, more K room at_ i, c⟩ 1 (K (room + i)) (by decide) hok (by rw [ht]; decide) (new_more hK ha (Nat.le_refl _) hn)
  refine ⟨h1, h2.trans ?_⟩
  rw [ht, show Ag.till 1 99 = 100 from by decide]
  have hl := oth_len ha
  have hm := more_len (K := K) ha (show i < room by omega)
  rw [cut_one (by simp [hm])]
  congr 1
  unfold more
  have hd : (oth room at_).drop i = (oth room at_)[i]'(by omega) :: (oth room at_).drop (i + 1) := List.drop_eq_getElem_cons (by omega)
  rw [hd, List.range_succ]
  simp only [List.map_cons, List.map_nil, List.map_append, List.cons_append, List.append_assoc, List.drop_succ_cons, List.drop_zero, itK]
/-- The last one: who was got last is dropped. -/
theorem put_last {K : Nat → St} {room n at_ : Nat} (hK : Inj K n) (hn : 2 * room < n) (ha : at_ < room) (h2 : 2 ≤ room) (c : Int) (hok : stOk (K (2 * room)) = true) (ht : (K (2 * room)).ttl = 99) :
    Sto.peek (Sto.put ⟨room, more K room at_ (room - 1), c⟩ 1 (K (2 * room)) 3) 1 (K at_).key = none := by
  obtain ⟨_, h2⟩ := put_new ⟨room, more K room at_ (room - 1), c⟩ 1 (K (2 * room)) (by decide) hok (by rw [ht]; decide) (new_more hK ha (by omega) hn)
  rw [h2, ht, show Ag.till 1 99 = 100 from by decide]
  have hl := oth_len ha
  have hm := more_len (K := K) ha (show room - 1 < room by omega)
  simp only
  rw [cut_one (by simp [hm])]
  have hf : Sto.find ((more K room at_ (room - 1) ++ [(⟨K (2 * room), 100, 3⟩ : It)]).drop 1) (K at_).key = none := by
    rw [Sto.find_none]
    intro hmem
    unfold more Sto.keysL at hmem
    rw [List.drop_eq_nil_of_le (by omega : (oth room at_).length ≤ room - 1)] at hmem
    simp only [List.map_nil, List.nil_append, List.cons_append, List.drop_succ_cons, List.drop_zero, List.map_append, List.map_map, List.map_cons, List.mem_append, List.mem_map, List.mem_cons, Function.comp, itK, List.mem_range, List.not_mem_nil, or_false] at hmem
    rcases hmem with ⟨k, hk, e⟩ | e
    · have := hK (room + k) at_ (by omega) (by omega) e
      omega
    · have := hK at_ (2 * room) (by omega) (by omega) e
      omega
  unfold Sto.peek
  rw [hf]
  rfl
end Go.Proofs.Ytgfaoaabnjblhaa.Us
