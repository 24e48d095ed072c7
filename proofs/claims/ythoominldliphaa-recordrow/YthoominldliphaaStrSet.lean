/- A slice of texts that a call itself made: one of its texts read, another one stored. No condition. -/
import Derived.Test.YthoominldliphaaStrs
namespace Go.Proofs.Ythoominldliphaa
open Go.RowKit

theorem OwnsS.set {w : World} {B g n cap : Nat} {ls : List (List UInt8)} (h : OwnsS w B (.slice (some ⟨g, 0, none⟩) n cap) ls) (hn : ls.length = n) (j : Nat) (y : List UInt8) :
    OwnsS (w.setCell ⟨g, j, none⟩ (sv y)) B (.slice (some ⟨g, 0, none⟩) n cap) (ls.set j y) := by
  subst hn
  have := (World.ownsRow.stored h j (sv y)).1
  unfold OwnsS
  rw [List.length_set, List.map_set]
  exact this
theorem OwnsS.at {w : World} {B g n cap : Nat} {ls : List (List UInt8)} (h : OwnsS w B (.slice (some ⟨g, 0, none⟩) n cap) ls) (hn : ls.length = n) (j : Nat) (hj : j < n) (y : List UInt8) (hy : ls[j]? = some y) :
    w.cell? ⟨g, j, none⟩ = some (sv y) ∧ w.frozen? ⟨g, j, none⟩ = false ∧ B ≤ g := by
  subst hn
  refine ⟨?_, World.ownsRow.frozenAt h j, ?_⟩
  · rw [World.ownsRow.cellAt h j (by omega), List.getElem?_map, hy]; rfl
  · rcases h.2 with ⟨h', _⟩ | ⟨g', cap', cur, h', hb, _⟩
    · cases h'
    · simp only [Value.slice.injEq, Option.some.injEq, Addr.mk.injEq, and_true, true_and] at h'
      omega
theorem OwnsS.shape {w : World} {B : Nat} {v : Value} {ls : List (List UInt8)} (h : OwnsS w B v ls) (hp : 0 < ls.length) : ∃ g cap, v = .slice (some ⟨g, 0, none⟩) ls.length cap := by
  rcases h.2 with ⟨_, hn⟩ | ⟨g, cap, cur, rfl, _⟩
  · omega
  · exact ⟨g, cap, rfl⟩
end Go.Proofs.Ythoominldliphaa
