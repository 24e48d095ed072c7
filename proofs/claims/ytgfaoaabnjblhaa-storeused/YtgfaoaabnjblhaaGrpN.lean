/- Where sets lie, and what the document's Sets tells of two lists. No condition but lengths. -/
import Derived.Test.YtgfaoaabnjblhaaGrpM
import Derived.Test.YtgfaoaabnjblhaaGrpA
namespace Go.Proofs.Ytgfaoaabnjblhaa
open Go.RowKit

/-- Where one set lies. -/
def OneAt (w : World) (g o : Nat) (x : St) (vx : Value) : Prop := w.cell? ⟨g, o, none⟩ = some (.string x.key.n) ∧ w.cell? ⟨g, o + 1, none⟩ = some (.int .i64 x.key.t) ∧ w.cell? ⟨g, o + 2, none⟩ = some (.int .i64 x.key.c) ∧ w.cell? ⟨g, o + 3, none⟩ = some (vx) ∧ w.cell? ⟨g, o + 4, none⟩ = some (.int .i64 x.ttl) ∧ g < w.heap.size
theorem OneAt.keeps {w w' : World} {g o : Nat} {x : St} {vx : Value} (h : OneAt w g o x vx) (k : Keeps w w') : OneAt w' g o x vx := by
  obtain ⟨h0, h1, h2, h3, h4, hl⟩ := h
  exact ⟨(Below.cell (p := ⟨g, o, none⟩) k hl).trans h0, (Below.cell (p := ⟨g, o + 1, none⟩) k hl).trans h1, (Below.cell (p := ⟨g, o + 2, none⟩) k hl).trans h2, (Below.cell (p := ⟨g, o + 3, none⟩) k hl).trans h3, (Below.cell (p := ⟨g, o + 4, none⟩) k hl).trans h4, Nat.lt_of_lt_of_le hl k.size⟩
theorem no_set {w : World} {v : Value} (h : SetsAt w v []) : ∃ a cap, v = .slice a 0 cap := by
  obtain ⟨ss, h1, h2, h3⟩ := h
  rw [List.map_eq_nil_iff] at h1
  subst h1
  obtain ⟨ad, cap, rfl, _, _⟩ := h2
  exact ⟨ad, cap, rfl⟩
theorem SetsAt.keeps {w w' : World} {v : Value} {l : List St} (h : SetsAt w v l) (k : Keeps w w') : SetsAt w' v l := by
  obtain ⟨ss, h1, h2, h3⟩ := h
  exact ⟨ss, h1, h2.keeps k, fun x hx => (h3 x hx).keeps k⟩
theorem SetsAt.len {w : World} {v : Value} {l : List St} (h : SetsAt w v l) : ∃ a cap, v = .slice a l.length cap := by
  obtain ⟨ss, rfl, h2, _⟩ := h
  obtain ⟨a, cap, rfl⟩ := h2.len
  exact ⟨a, cap, by rw [List.length_map, List.length_map]⟩
theorem SetsAt.at {w : World} {v : Value} {l : List St} (h : SetsAt w v l) (hp : 0 < l.length) : ∃ b off cap, v = .slice (some ⟨b, off, none⟩) l.length cap ∧ b < w.heap.size ∧ ∀ i (hi : i < l.length), ∃ vd, ReadS w vd l[i].ds ∧ OneAt w b (off + i * 5) l[i] vd := by
  obtain ⟨ss, rfl, h2, h3⟩ := h
  obtain ⟨ad, cap, rfl, _, h5⟩ := h2
  rw [List.length_map] at hp
  obtain ⟨b, off, rfl, hg, hc⟩ := h5 (by rw [List.length_map]; exact hp)
  refine ⟨b, off, cap, by rw [List.length_map, List.length_map], hg, fun i hi => ?_⟩
  have hi' : i < ss.length := by rw [List.length_map] at hi; exact hi
  have e : ∀ k, k < 5 → w.cell? ⟨b, off + i * 5 + k, none⟩ = (stR ss[i])[k]? := fun k hk => by
    rw [hc i (by rw [List.length_map]; exact hi') k hk]
    simp
  refine ⟨ss[i].2, ?_, ?_⟩
  · rw [List.getElem_map]
    exact h3 _ (List.getElem_mem hi')
  · rw [List.getElem_map]
    exact ⟨e 0 (by omega), e 1 (by omega), e 2 (by omega), e 3 (by omega), e 4 (by omega), hg⟩

/-! ### The sizes of what records come to. -/
theorem fold_len : ∀ (l : List Rec) (a : List St) (n : Nat), (a.length ≤ n ∧ ∀ s ∈ a, s.ds.length ≤ n) → ((l.foldl stepM a).length ≤ n + l.length ∧ ∀ s ∈ l.foldl stepM a, s.ds.length ≤ n + l.length)
  | [], _, _, h => h
  | r :: l, a, n, h => by
    have hs : (stepM a r).length ≤ n + 1 ∧ ∀ s ∈ stepM a r, s.ds.length ≤ n + 1 := by
      unfold stepM
      split
      · constructor
        · have e := congrArg List.length (layM_keys (keyM r) r.l (lowR r) a)
          rw [List.length_map] at e
          rw [e]
          split <;> simp <;> omega
        · intro s hs
          rcases layM_mem hs with hs | rfl | ⟨y, hy, _, rfl⟩
          · have := h.2 s hs
            omega
          · simp
          · have := h.2 y hy
            show (addD y.ds (lowR r)).length ≤ n + 1
            unfold addD
            split
            · omega
            · simp
              omega
      · exact ⟨by omega, fun s hs => by have := h.2 s hs; omega⟩
    have := fold_len l (stepM a r) (n + 1) hs
    rw [List.foldl_cons, List.length_cons]
    exact ⟨by omega, fun s hs => by have := this.2 s hs; omega⟩
theorem from_len (l : List Rec) : (fromM l).length ≤ l.length ∧ ∀ s ∈ fromM l, s.ds.length ≤ l.length := by
  have := fold_len l [] 0 ⟨by simp, by simp⟩
  rw [Nat.zero_add] at this
  exact this
theorem stOk_fine {s : St} (h : stOk s = true) (hl : s.ds.length ≤ maxLen) : StFine s := by
  obtain ⟨h1, h2, h3, h4⟩ := stOk_parts.1 h
  obtain ⟨d, hd⟩ := List.exists_mem_of_ne_nil _ h1
  have hk := h3 d hd
  rw [dataOk, Bool.and_eq_true] at hk
  have h5 := (recOk_parts.1 hk.1).1
  refine ⟨?_, hl, fun d hd => ?_⟩
  · have := (Nm.okL_spec _).1 h5 |>.1
    have e : (bl s.key.n).length = s.key.n.size := bl_length _
    show s.key.n.size ≤ maxLen
    change (bl s.key.n).length ≤ 255 at this
    unfold maxLen
    omega
  · have hk := h3 d hd
    rw [dataOk, Bool.and_eq_true, beq_iff_eq] at hk
    have := lowD_len s.key.t d
    rw [hk.2] at this
    unfold maxLen
    omega
end Go.Proofs.Ytgfaoaabnjblhaa
