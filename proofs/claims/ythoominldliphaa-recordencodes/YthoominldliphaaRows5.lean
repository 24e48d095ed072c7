/- A slice whose elements are some cells each: what it reads. No condition. -/
import Derived.Test.YthoominldliphaaAid
import Derived.ProofKit
import Derived.OpenShut
namespace Go.Proofs.Ythoominldliphaa
open Go.ChangeShapes Go.WideShapes Go.ChangeAt Go.RowKit

/-- The slice v reads as these rows, of c cells each. -/
def ReadRow (w : World) (v : Value) (c : Nat) (rows : List (List Value)) : Prop :=
  ∃ a cap, v = .slice a rows.length cap ∧ rows.length ≤ cap ∧ (0 < rows.length → ∃ b off, a = some ⟨b, off, none⟩ ∧ b < w.heap.size ∧ ∀ i (h : i < rows.length) j, j < c → w.cell? ⟨b, off + i * c + j, none⟩ = rows[i][j]?)
theorem ReadRow.keeps {w w' : World} {v : Value} {c : Nat} {rows : List (List Value)} (h : ReadRow w v c rows) (k : Keeps w w') : ReadRow w' v c rows := by
  obtain ⟨a, cap, h1, h2, h3⟩ := h
  refine ⟨a, cap, h1, h2, fun hp => ?_⟩
  obtain ⟨b, off, h4, h5, h6⟩ := h3 hp
  exact ⟨b, off, h4, Nat.lt_of_lt_of_le h5 k.size, fun i hi j hj => (Below.cell k (p := ⟨b, off + i * c + j, none⟩) h5).trans (h6 i hi j hj)⟩
theorem ReadRow.len {w : World} {v : Value} {c : Nat} {rows : List (List Value)} (h : ReadRow w v c rows) : ∃ a cap, v = .slice a rows.length cap := by
  obtain ⟨a, cap, h1, _, _⟩ := h
  exact ⟨a, cap, h1⟩
theorem ReadRow.nil {w : World} {a : Option Addr} {cap c : Nat} : ReadRow w (.slice a 0 cap) c [] := ⟨a, cap, rfl, by simp, fun h => by simp at h⟩
theorem ReadRow.parts {w : World} {a : Option Addr} {n cap c : Nat} {rows : List (List Value)} (h : ReadRow w (.slice a n cap) c rows) (hp : 0 < rows.length) :
    ∃ b off, a = some ⟨b, off, none⟩ ∧ b < w.heap.size ∧ ∀ i (h : i < rows.length) j, j < c → w.cell? ⟨b, off + i * c + j, none⟩ = rows[i][j]? := by
  obtain ⟨a', cap', h1, _, h3⟩ := h
  simp only [Value.slice.injEq] at h1
  obtain ⟨rfl, _, _⟩ := h1
  exact h3 hp
theorem add_none (b o n : Nat) : (⟨b, o, none⟩ : Addr).add n = ⟨b, o + n, none⟩ := by
  simp only [Addr.add]
  split
  · rename_i h; simp_all
  · rfl
theorem cells_get {w : World} {base : Nat} {a : Addr} {n : Nat} {cs : List Value} (h : w.cells? base a n = some cs) : cs.length = n ∧ ∀ j, j < n → w.cell? (a.add j) = cs[j]? := by
  unfold World.cells? at h
  split at h
  · have hl := mapM_some_length h
    simp at hl
    exact ⟨hl, fun j hj => mapM_some_get h j j (by simp [hj])⟩
  · cases h

theorem open_row {α : Type} {H : Type} {enc : TypeId × Value → H} {P : Program} {w : World} {base : Nat} {spare : TypeId → Bool} {held : Bool} {r : Reach} {b0 : Nat} {t e : TypeId} {v : Value} {d : DataW H} {p : List MemPlace}
    (f : α → List Value) (Q : α → Prop) (c : Nat) (hs : P.underlying t = some (.slice e)) (hc : P.cellsOf e = c) (hpos : 0 < c) (hfl : ∀ x, (f x).length = c)
    (hel : ∀ n cs y, cs.length = c → DataW.trod enc P w base spare held n e cs = some y → ∃ x, cs = f x ∧ Q x)
    (hv : Value.okWide P w r b0 t v) (h : DataW.Trod enc P w base spare held t v d p) : ∃ xs : List α, ReadRow w v c (xs.map f) ∧ (∀ x ∈ xs, Q x) ∧ xs.length ≤ maxLen := by
  obtain ⟨a, n, cap, rfl⟩ := okWide_slice hs hv
  obtain ⟨fuel, hf⟩ := h
  rcases DataW.trod_slice hs hf with ⟨hcs, _⟩ | ⟨x, len, cap', elems, rest, m, _, hcs, _, hb, hl, hm, hlen, hell, _, _⟩
  · simp [Value.cells] at hcs
    obtain ⟨rfl, rfl, rfl⟩ := hcs
    exact ⟨[], ReadRow.nil, by simp, by simp⟩
  · simp [Value.cells] at hcs
    obtain ⟨rfl, rfl, rfl⟩ := hcs
    have each : ∀ i : Fin n, ∃ y : α, w.cells? base (x.add (i.val * c)) c = some (f y) ∧ Q y := by
      intro i
      have := hell i.val i.isLt
      rw [List.getElem?_eq_getElem (by omega), Option.bind_eq_some_iff, hc] at this
      obtain ⟨cs, h1, h2⟩ := this
      obtain ⟨y, rfl, hq⟩ := hel _ _ _ (cells_get h1).1 h2
      exact ⟨y, h1, hq⟩
    refine ⟨List.ofFn fun i => Classical.choose (each i), ?_, ?_, by simp; omega⟩
    · refine ⟨some x, cap, by simp, by simpa using hl, fun hp => ?_⟩
      have hn : 0 < n := by simpa using hp
      have h0 := (cells_get (Classical.choose_spec (each ⟨0, hn⟩)).1).2 0 hpos
      have hlen0 := hfl (Classical.choose (each ⟨0, hn⟩))
      rw [List.getElem?_eq_getElem (by omega)] at h0
      obtain ⟨xb, xo, xs⟩ := x
      have hsp : xs = none := by
        cases xs with
        | none => rfl
        | some s =>
          simp only [World.cell?, Addr.add] at h0
          split at h0
          · simp at h0
          · cases h0
      subst hsp
      have hlt := World.block_lt_of_cell? w _ h0
      refine ⟨xb, xo, rfl, by rw [add_none, add_none] at hlt; exact hlt, fun i hi j hj => ?_⟩
      have hi' : i < n := by simpa using hi
      have := (cells_get (Classical.choose_spec (each ⟨i, hi'⟩)).1).2 j hj
      simp only [List.getElem_map, List.getElem_ofFn]
      rw [← this]
      rw [add_none, add_none]
    · intro y hy
      rw [List.mem_ofFn] at hy
      obtain ⟨i, rfl⟩ := hy
      exact (Classical.choose_spec (each i)).2
end Go.Proofs.Ythoominldliphaa
