/- Sets that a call keeps, as the document's From lays them. No condition. -/
import Derived.Test.YtdfhojhljfcolaaGrpN
namespace Go.Proofs.Ytdfhojhljfcolaa
open Go.RowKit

theorem ownS_mono {w : World} {B B' : Nat} {v : Value} {l : List (List UInt8)} (h : OwnsS w B v l) (hb : B' ≤ B) : OwnsS w B' v l := h.le hb
theorem ownR_mono {w : World} {B B' : Nat} {ty : TypeId} {c : Nat} {v : Value} {l : List (List Value)} (h : OwnsR w B ty c v l) (hb : B' ≤ B) : OwnsR w B' ty c v l := by
  refine ⟨⟨h.1.1, ?_⟩, h.2⟩
  rcases h.1.2 with h2 | ⟨g, cap, cur, e, hb2, rest⟩
  · exact .inl h2
  · exact .inr ⟨g, cap, cur, e, by omega, rest⟩
theorem ones_flat (ls : List (List UInt8)) : (ls.map fun x => [sv x]).flatten = ls.map sv := by
  induction ls with
  | nil => rfl
  | cons x l ih => simp [ih]
theorem ownR_of {w : World} {B : Nat} {v : Value} {ls : List (List UInt8)} (h : OwnsS w B v ls) : OwnsR w B 9 1 v (ls.map fun x => [sv x]) := by
  refine ⟨?_, ?_⟩
  · rw [ones_flat, List.length_map]
    exact h
  · intro r hr
    rw [List.mem_map] at hr
    obtain ⟨x, _, rfl⟩ := hr
    rfl
theorem ownS_of {w : World} {B : Nat} {v : Value} {ls : List (List UInt8)} (h : OwnsR w B 9 1 v (ls.map fun x => [sv x])) : OwnsS w B v ls := by
  have h1 := h.1
  rw [ones_flat, List.length_map] at h1
  exact h1

/-- Other data of one of them, in a block that is new. -/
theorem sets_fresh {w w' : World} {B g cap n : Nat} {ss : List (St × Value)} (h : SetsOwn w B (.slice (some ⟨g, 0, none⟩) n cap) ss) (hn : ss.length = n) (i : Nat) (hi : i < ss.length) (v' : Value) (ds : List (List UInt8))
    (hB : B ≤ w.heap.size) (k : Keeps w w') (ho : OwnsS w' w.heap.size v' ds) :
    SetsOwn (w'.setCell ⟨g, i * 5 + 3, none⟩ v') B (.slice (some ⟨g, 0, none⟩) n cap) (ss.set i (⟨ss[i].1.key, ds, ss[i].1.ttl⟩, v')) := by
  have h' := h.below k
  have hst : OwnsR (w'.setCell ⟨g, i * 5 + 3, none⟩ v') B 35 5 (.slice (some ⟨g, 0, none⟩) n cap) ((ss.map stR).set i ((stR ss[i]).set 3 v')) ∧ w'.grownBy (w'.setCell ⟨g, i * 5 + 3, none⟩ v') (some g) := h'.stored hn i 3 hi (by decide) v'
  have hoB := ownS_mono ho hB
  have kv : OwnsS (w'.setCell ⟨g, i * 5 + 3, none⟩ v') B v' ds := World.ownsRow.kept hoB hst.2 (.inr (rows_apart (g := g) h'.row.1 hoB ty_apart rfl))
  have kds : ∀ j (hj : j < ss.length), OwnsS (w'.setCell ⟨g, i * 5 + 3, none⟩ v') B ss[j].2 ss[j].1.ds := fun j hj =>
    World.ownsRow.kept (h'.ds _ (List.getElem_mem hj)) hst.2 (.inr (rows_apart (g := g) h'.row.1 (h'.ds _ (List.getElem_mem hj)) ty_apart rfl))
  have old : ∀ j (hj : j < ss.length), ∀ k, ss[j].2.ownBlock = some k → v'.ownBlock ≠ some k := by
    intro j hj k hk e
    have h1 := (World.ownsRow.lt (h.ds _ (List.getElem_mem hj)) k hk).2
    have h2 := (World.ownsRow.lt ho k e).1
    omega
  refine ⟨?_, ?_, ?_⟩
  · rw [List.map_set]
    exact hst.1
  · intro y hy
    obtain ⟨j, hj, rfl⟩ := List.getElem_of_mem hy
    rw [List.length_set] at hj
    rw [List.getElem_set]
    split
    · exact kv
    · exact kds j hj
  · intro a b ha hb hab k hk
    rw [List.length_set] at ha hb
    rw [List.getElem_set] at hk ⊢
    by_cases h1 : i = a
    · rw [if_pos h1] at hk
      rw [if_neg (by omega)]
      intro e
      exact old b hb k e hk
    · rw [if_neg h1] at hk
      by_cases h2 : i = b
      · rw [if_pos h2]
        exact old a ha k hk
      · rw [if_neg h2]
        exact h.apart a b ha hb hab k hk
/-- They, laid anew, and one more, whose data lie in a block that is new. -/
theorem sets_more {w w' : World} {B : Nat} {v v' : Value} {ss : List (St × Value)} (h : SetsOwn w B v ss) (s : St) (vd : Value) (hB : B ≤ w.heap.size) (k : Keeps w w')
    (ho : OwnsR w' B 35 5 v' (ss.map stR ++ [stL s vd])) (hd : OwnsS w' w.heap.size vd s.ds) : SetsOwn w' B v' (ss ++ [(s, vd)]) := by
  have h' := h.below k
  have old : ∀ j (hj : j < ss.length), ∀ k, ss[j].2.ownBlock = some k → vd.ownBlock ≠ some k := by
    intro j hj k hk e
    have h1 := (World.ownsRow.lt (h.ds _ (List.getElem_mem hj)) k hk).2
    have h2 := (World.ownsRow.lt hd k e).1
    omega
  refine ⟨by rw [List.map_append]; exact ho, ?_, ?_⟩
  · intro y hy
    rw [List.mem_append, List.mem_singleton] at hy
    rcases hy with hy | rfl
    · exact h'.ds y hy
    · exact ownS_mono hd hB
  · intro a b ha hb hab k hk
    rw [List.length_append] at ha hb
    simp only [List.length_cons, List.length_nil] at ha hb
    by_cases h1 : a < ss.length
    · rw [List.getElem_append_left h1] at hk
      by_cases h2 : b < ss.length
      · rw [List.getElem_append_left h2]
        exact h.apart a b h1 h2 hab k hk
      · have : b = ss.length := by omega
        subst this
        simp only [List.getElem_concat_length]
        exact old a h1 k hk
    · have : a = ss.length := by omega
      subst this
      simp only [List.getElem_concat_length] at hk
      rw [List.getElem_append_left (by omega)]
      intro e
      exact old b (by omega) k e hk
end Go.Proofs.Ytdfhojhljfcolaa
