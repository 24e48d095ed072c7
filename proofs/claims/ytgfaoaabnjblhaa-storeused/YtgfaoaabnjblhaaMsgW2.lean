/- What decodeList of layer 8 answers, of questions and of records. No condition. -/
import Derived.Test.YtgfaoaabnjblhaaMsgW1
namespace Go.Proofs.Ytgfaoaabnjblhaa
open Go.RowKit

/-- The slice's own block, if it has one, lies between these. -/
def Within (v : Value) (lo hi : Nat) : Prop := ∀ b, v.ownBlock = some b → lo ≤ b ∧ b < hi
theorem OwnsR.within {w : World} {B : Nat} {ty : TypeId} {c : Nat} {v : Value} {l : List (List Value)} (h : OwnsR w B ty c v l) : Within v B w.heap.size := by
  intro b hb
  rcases h.1.2 with ⟨rfl, _⟩ | ⟨g, cap, cur, rfl, hB, hg, _⟩
  · cases hb
  · simp only [Value.ownBlock, Option.some.injEq] at hb
    subst hb
    exact ⟨hB, (Array.getElem?_eq_some_iff.1 hg).1⟩
theorem Within.none (lo hi : Nat) : Within (.slice none 0 0) lo hi := by intro b h; cases h
/-- What comes of a list that is decoded. -/
def ListEnd {α : Type} (w : World) (c : Nat) (f : α → List Value) (d : DL α) (e : Ending) (w' : World) : Prop := ∃ v, e = .returned (.tuple #[v, .int .i64 d.next, .int .i64 d.e]) ∧ ReadRow w' v c (d.xs.map f) ∧ Within v w.heap.size w'.heap.size ∧ Keeps w w'
theorem ListEnd.mk {α : Type} {w : World} {c : Nat} {f : α → List Value} {d : DL α} {w' : World} {v : Value} {n e : Int} (hn : n = d.next) (he : e = d.e) (h : ReadRow w' v c (d.xs.map f)) (hv : Within v w.heap.size w'.heap.size) (k : Keeps w w') : ListEnd w c f d (.returned (.tuple #[v, .int .i64 n, .int .i64 e])) w' := by
  subst hn he
  exact ⟨v, rfl, h, hv, k⟩
theorem decQ_next (m : ByteArray) (p : Nat) (h : (decQ m p).e = 0) : (decQ m p).next ≤ m.size := by
  unfold decQ at h ⊢
  by_cases h1 : (Cm.readL (bl m) p).e = 0
  · rw [if_pos h1] at h ⊢
    by_cases h2 : (Cm.readL (bl m) p).next + 4 ≤ m.size
    · rw [if_pos h2]; exact h2
    · rw [if_neg h2] at h; simp at h
  · rw [if_neg h1] at h; exact absurd h h1
theorem decR1_next (m : ByteArray) (p : Nat) (h : (decR1 m p).e = 0) : (decR1 m p).next ≤ m.size := by
  rcases dec_may m p with ⟨h1, _, _⟩ | ⟨_, _, _, h4, _, _⟩
  · exact absurd h h1
  · exact h4
theorem cells_box (w : World) (A : Array Value) (ty : TypeId) (j : Nat) (u : Value) (h : A.toList[j]? = some u) : (w.alloc (.cells A ty)).cell? ((⟨w.heap.size, 0, none⟩ : Addr).add j) = some u := by
  rw [add_none, Nat.zero_add, World.cell?_alloc_mark]
  simpa using h

end Go.Proofs.Ytgfaoaabnjblhaa
