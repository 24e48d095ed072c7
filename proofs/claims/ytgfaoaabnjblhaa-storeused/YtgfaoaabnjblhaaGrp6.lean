/- What becomes of sets that a call itself makes: one more; another time; one more of its data. No condition. -/
import Derived.Test.YtgfaoaabnjblhaaGrp5
namespace Go.Proofs.Ytgfaoaabnjblhaa
open Go.RowKit

theorem rows_apart {w : World} {B B' : Nat} {e e' : TypeId} {c c' : Nat} {v v' : Value} {n n' : Nat} {xs xs' : List Value} (h : w.ownsRow B e c v n xs) (h' : w.ownsRow B' e' c' v' n' xs') (hne : e ≠ e') {g : Nat} (hg : v.ownBlock = some g) : v'.ownBlock ≠ some g := by
  intro hg'
  rcases h.2 with ⟨rfl, _⟩ | ⟨a, cap, cur, rfl, _, h1, _⟩
  · simp [Value.ownBlock] at hg
  rcases h'.2 with ⟨rfl, _⟩ | ⟨b, cap', cur', rfl, _, h2, _⟩
  · simp [Value.ownBlock] at hg'
  simp [Value.ownBlock] at hg hg'
  subst hg hg'
  rw [h1] at h2
  simp at h2
  exact hne h2.2
theorem flat_set {c : Nat} : ∀ (rows : List (List Value)) (_ : ∀ r ∈ rows, r.length = c) (i j : Nat) (hi : i < rows.length) (_ : j < c) (u : Value), rows.flatten.set (i * c + j) u = (rows.set i (rows[i].set j u)).flatten
  | [], _, i, j, hi, _, u => by simp at hi
  | r :: rows, h, 0, j, _, hj, u => by
    have := h r (by simp)
    simp [show j < r.length by omega]
  | r :: rows, h, i + 1, j, hi, hj, u => by
    have hr := h r (by simp)
    have e : (i + 1) * c + j = r.length + (i * c + j) := by rw [Nat.succ_mul, hr]; omega
    have h2 := flat_set rows (fun x hx => h x (by simp [hx])) i j (by simpa using hi) hj u
    rw [List.flatten_cons, e, List.set_append, if_neg (by omega), Nat.add_sub_cancel_left, h2]
    simp
theorem stR_len (x : St × Value) : (stR x).length = 5 := rfl
theorem SetsOwn.len {w : World} {B : Nat} {v : Value} {ss : List (St × Value)} (h : SetsOwn w B v ss) : ∃ a cap, v = .slice a ss.length cap := by
  obtain ⟨a, cap, e⟩ := h.row.form
  exact ⟨a, cap, by rw [e, List.length_map]⟩
theorem SetsOwn.shape {w : World} {B : Nat} {v : Value} {ss : List (St × Value)} (h : SetsOwn w B v ss) (hp : 0 < ss.length) : ∃ g cap, v = .slice (some ⟨g, 0, none⟩) ss.length cap ∧ B ≤ g ∧ g < w.heap.size := by
  rcases h.row.1.2 with ⟨_, hn⟩ | ⟨g, cap, cur, rfl, hB, hg, _⟩
  · rw [List.length_map] at hn; omega
  · exact ⟨g, cap, by rw [List.length_map], hB, (Array.getElem?_eq_some_iff.1 hg).1⟩
/-- The cells of the i-th set. -/
theorem SetsOwn.cell {w : World} {B g cap n : Nat} {ss : List (St × Value)} (h : SetsOwn w B (.slice (some ⟨g, 0, none⟩) n cap) ss) (hn : ss.length = n) (i j : Nat) (hi : i < ss.length) (hj : j < 5) : w.cell? ⟨g, i * 5 + j, none⟩ = (stR ss[i])[j]? := by
  subst hn
  have h1 := h.row.1
  rw [List.length_map] at h1
  rw [World.ownsRow.cellAt h1 (i * 5 + j) (by have : (i + 1) * 5 ≤ ss.length * 5 := Nat.mul_le_mul_right _ hi; omega), flat_get _ h.row.2 i j (by rw [List.length_map]; exact hi) hj]
  rw [List.getElem_map]
theorem SetsOwn.frozen {w : World} {B g cap n : Nat} {ss : List (St × Value)} (h : SetsOwn w B (.slice (some ⟨g, 0, none⟩) n cap) ss) (hn : ss.length = n) (j : Nat) : w.frozen? ⟨g, j, none⟩ = false := by
  subst hn
  have h1 := h.row.1
  rw [List.length_map] at h1
  exact World.ownsRow.frozenAt h1 j
theorem ty_apart : (35 : TypeId) ≠ 9 := by decide
/-- A cell of the i-th set is stored into. -/
theorem SetsOwn.stored {w : World} {B g cap n : Nat} {ss : List (St × Value)} (h : SetsOwn w B (.slice (some ⟨g, 0, none⟩) n cap) ss) (hn : ss.length = n) (i j : Nat) (hi : i < ss.length) (hj : j < 5) (u : Value) :
    OwnsR (w.setCell ⟨g, i * 5 + j, none⟩ u) B 35 5 (.slice (some ⟨g, 0, none⟩) n cap) ((ss.map stR).set i ((stR ss[i]).set j u)) ∧ w.grownBy (w.setCell ⟨g, i * 5 + j, none⟩ u) (some g) := by
  subst hn
  have h1 := h.row.1
  rw [List.length_map] at h1
  have h2 := World.ownsRow.stored h1 (i * 5 + j) u
  refine ⟨⟨?_, ?_⟩, h2.2⟩
  · rw [List.length_set, List.length_map]
    have e := flat_set (ss.map stR) h.row.2 i j (by rw [List.length_map]; exact hi) hj u
    rw [List.getElem_map] at e
    rw [← e]
    exact h2.1
  · intro r hr
    rcases List.mem_or_eq_of_mem_set hr with hr | rfl
    · exact h.row.2 r hr
    · rw [List.length_set]; rfl
/-- Another time. -/
theorem SetsOwn.ttl {w : World} {B g cap n : Nat} {ss : List (St × Value)} (h : SetsOwn w B (.slice (some ⟨g, 0, none⟩) n cap) ss) (hn : ss.length = n) (i : Nat) (hi : i < ss.length) (x : Int) :
    SetsOwn (w.setCell ⟨g, i * 5 + 4, none⟩ (.int .i64 x)) B (.slice (some ⟨g, 0, none⟩) n cap) (ss.set i (⟨ss[i].1.key, ss[i].1.ds, x⟩, ss[i].2)) := by
  obtain ⟨h1, h2⟩ := h.stored hn i 4 hi (by decide) (.int .i64 x)
  have kds : ∀ y ∈ ss, OwnsS (w.setCell ⟨g, i * 5 + 4, none⟩ (.int .i64 x)) B y.2 y.1.ds := fun y hy => World.ownsRow.kept (h.ds y hy) h2 (.inr (rows_apart (g := g) h.row.1 (h.ds y hy) ty_apart rfl))
  refine ⟨?_, ?_, ?_⟩
  · rw [List.map_set]
    exact h1
  · intro y hy
    rcases List.mem_or_eq_of_mem_set hy with hy | rfl
    · exact kds y hy
    · exact kds ss[i] (List.getElem_mem hi)
  · intro a b ha hb hab k
    rw [List.length_set] at ha hb
    simp only [List.getElem_set]
    have e : ∀ (a : Nat) (ha : a < ss.length), (if i = a then ((⟨ss[i].1.key, ss[i].1.ds, x⟩, ss[i].2) : St × Value) else ss[a]).2 = ss[a].2 := by
      intro a ha
      split
      · rename_i e; subst e; rfl
      · rfl
    rw [e a ha, e b hb]
    exact h.apart a b ha hb hab k
/-- One more, that has no data yet. -/
theorem SetsOwn.push {w w' : World} {B : Nat} {v v' : Value} {ss : List (St × Value)} (h : SetsOwn w B v ss) (s : St) (hs : s.ds = []) (ho : OwnsR w' B 35 5 v' (ss.map stR ++ [stL s (.slice none 0 0)])) (hg : w.grownBy w' v.ownBlock) :
    SetsOwn w' B v' (ss ++ [(s, .slice none 0 0)]) := by
  refine ⟨by rw [List.map_append]; exact ho, ?_, ?_⟩
  · intro y hy
    rw [List.mem_append, List.mem_singleton] at hy
    rcases hy with hy | rfl
    · refine World.ownsRow.kept (h.ds y hy) hg ?_
      cases hb : v.ownBlock with
      | none =>
        cases y.2.ownBlock with
        | none => exact .inl rfl
        | some _ => exact .inr (by simp)
      | some g => exact .inr (rows_apart h.row.1 (h.ds y hy) ty_apart hb)
    · show OwnsS w' B (.slice none 0 0) s.ds
      rw [hs]
      exact OwnsS.nil _ _
  · intro a b ha hb hab k hk
    rw [List.length_append] at ha hb
    simp only [List.length_cons, List.length_nil] at ha hb
    by_cases h1 : a < ss.length
    · rw [List.getElem_append_left h1] at hk
      by_cases h2 : b < ss.length
      · rw [List.getElem_append_left h2]
        exact h.apart a b h1 h2 hab k hk
      · have : b = ss.length := by omega
        subst this
        simp [Value.ownBlock]
    · have : a = ss.length := by omega
      subst this
      simp [Value.ownBlock] at hk
/-- One more of its data. -/
theorem SetsOwn.data {w w' : World} {B g cap n : Nat} {ss : List (St × Value)} (h : SetsOwn w B (.slice (some ⟨g, 0, none⟩) n cap) ss) (hn : ss.length = n) (i : Nat) (hi : i < ss.length) (v' : Value) (d : List UInt8)
    (ho : OwnsS w' B v' (ss[i].1.ds ++ [d])) (hg : w.grownBy w' ss[i].2.ownBlock) (hat : v'.ownBlock = ss[i].2.ownBlock ∨ v'.ownBlock = some w.heap.size) :
    SetsOwn (w'.setCell ⟨g, i * 5 + 3, none⟩ v') B (.slice (some ⟨g, 0, none⟩) n cap) (ss.set i (⟨ss[i].1.key, ss[i].1.ds ++ [d], ss[i].1.ttl⟩, v')) := by
  have hne : (Value.slice (some ⟨g, 0, none⟩) n cap).ownBlock ≠ ss[i].2.ownBlock := fun e => rows_apart (g := g) h.row.1 (h.ds _ (List.getElem_mem hi)) ty_apart rfl e.symm
  have row' : OwnsR w' B 35 5 (.slice (some ⟨g, 0, none⟩) n cap) (ss.map stR) := ⟨World.ownsRow.kept h.row.1 hg (.inr hne), h.row.2⟩
  have hst : OwnsR (w'.setCell ⟨g, i * 5 + 3, none⟩ v') B 35 5 (.slice (some ⟨g, 0, none⟩) n cap) ((ss.map stR).set i ((stR ss[i]).set 3 v')) ∧ w'.grownBy (w'.setCell ⟨g, i * 5 + 3, none⟩ v') (some g) := by
    subst hn
    have h1 := row'.1
    rw [List.length_map] at h1
    have h2 := World.ownsRow.stored h1 (i * 5 + 3) v'
    refine ⟨⟨?_, ?_⟩, h2.2⟩
    · rw [List.length_set, List.length_map]
      have e := flat_set (ss.map stR) h.row.2 i 3 (by rw [List.length_map]; exact hi) (by decide) v'
      rw [List.getElem_map] at e
      rw [← e]
      exact h2.1
    · intro r hr
      rcases List.mem_or_eq_of_mem_set hr with hr | rfl
      · exact h.row.2 r hr
      · rw [List.length_set]; rfl
  have kv : OwnsS (w'.setCell ⟨g, i * 5 + 3, none⟩ v') B v' (ss[i].1.ds ++ [d]) := World.ownsRow.kept ho hst.2 (.inr (rows_apart (g := g) row'.1 ho ty_apart rfl))
  have kds : ∀ j (hj : j < ss.length), j ≠ i → OwnsS (w'.setCell ⟨g, i * 5 + 3, none⟩ v') B ss[j].2 ss[j].1.ds := fun j hj hji => by
    have o1 : OwnsS w' B ss[j].2 ss[j].1.ds := by
      refine World.ownsRow.kept (h.ds _ (List.getElem_mem hj)) hg ?_
      cases hb : ss[j].2.ownBlock with
      | none => exact .inl rfl
      | some k => exact .inr (fun e => h.apart j i hj hi hji k hb e.symm)
    exact World.ownsRow.kept o1 hst.2 (.inr (rows_apart (g := g) row'.1 o1 ty_apart rfl))
  refine ⟨?_, ?_, ?_⟩
  · rw [List.map_set]
    exact hst.1
  · intro y hy
    obtain ⟨j, hj, rfl⟩ := List.getElem_of_mem hy
    rw [List.length_set] at hj
    rw [List.getElem_set]
    split
    · exact kv
    · rename_i hji
      exact kds j hj (fun e => hji e.symm)
  · intro a b ha hb hab k hk
    rw [List.length_set] at ha hb
    have old : ∀ j (hj : j < ss.length), j ≠ i → ∀ k, ss[j].2.ownBlock = some k → v'.ownBlock ≠ some k := by
      intro j hj hji k hk e
      rcases hat with h1 | h1
      · rw [h1] at e
        exact h.apart j i hj hi hji k hk e
      · rw [h1] at e
        have := (World.ownsRow.lt (h.ds _ (List.getElem_mem hj)) k hk).2
        simp at e
        omega
    rw [List.getElem_set] at hk ⊢
    by_cases h1 : i = a
    · rw [if_pos h1] at hk
      rw [if_neg (by omega)]
      intro e
      exact old b hb (by omega) k e hk
    · rw [if_neg h1] at hk
      by_cases h2 : i = b
      · rw [if_pos h2]
        exact old a ha (fun e => h1 e.symm) k hk
      · rw [if_neg h2]
        exact h.apart a b ha hb hab k hk

/-! ### What From does with one record -/
theorem layM_hit (k : Qn) (ttl : Int) (d : List UInt8) : ∀ (l : List St) (i : Nat) (hi : i < l.length), l[i].key = k → (∀ j (hj : j < l.length), j < i → l[j].key ≠ k) → layM k ttl d l = l.set i ⟨l[i].key, addD l[i].ds d, min l[i].ttl ttl⟩
  | [], i, hi, _, _ => by simp at hi
  | s :: l, 0, _, hk, _ => by
    have hk' : s.key = k := hk
    rw [layM, if_pos hk']
    rfl
  | s :: l, i + 1, hi, hk, hn => by
    have h0 : s.key ≠ k := hn 0 (by simp) (by omega)
    have ih := layM_hit k ttl d l i (by simpa using hi) (by simpa using hk) (fun j hj hji => by have := hn (j + 1) (by simpa using hj) (by omega); simpa using this)
    rw [layM, if_neg h0, ih]
    rfl
theorem layM_miss (k : Qn) (ttl : Int) (d : List UInt8) : ∀ (l : List St), (∀ s ∈ l, s.key ≠ k) → layM k ttl d l = l ++ [⟨k, [d], ttl⟩]
  | [], _ => rfl
  | s :: l, h => by
    rw [layM, if_neg (h s (by simp)), layM_miss k ttl d l (fun x hx => h x (by simp [hx]))]
    rfl
/-- The map of places tells where each key's set is. -/
structure PlOk (f : Qn → Option Int) (l : List St) : Prop where
  at_ : ∀ q i, f q = some i → ∃ (k : Nat) (h : k < l.length), i = k ∧ l[k].key = q
  of_ : ∀ k (h : k < l.length), f l[k].key = some (k : Int)
/-- The map of members tells which data are there. -/
def MbOk (g : Int × List UInt8 → Option Int) (l : List St) : Prop := ∀ (k : Nat) d, (g ((k : Int), d)).isSome = true ↔ ∃ h : k < l.length, d ∈ l[k].ds
theorem PlOk.nil : PlOk (fun _ => none) [] := ⟨fun q i h => by simp at h, fun k h => by simp at h⟩
theorem MbOk.nil : MbOk (fun _ => none) [] := fun k d => by simp
theorem PlOk.miss {f : Qn → Option Int} {l : List St} (h : PlOk f l) {q : Qn} (hq : f q = none) : ∀ s ∈ l, s.key ≠ q := by
  intro s hs e
  obtain ⟨k, hk, rfl⟩ := List.getElem_of_mem hs
  have := h.of_ k hk
  rw [e, hq] at this
  simp at this
theorem PlOk.push {f : Qn → Option Int} {l : List St} (h : PlOk f l) {q : Qn} (hq : f q = none) (s : St) (hs : s.key = q) : PlOk (fun y => if y = q then some (l.length : Int) else f y) (l ++ [s]) := by
  refine ⟨fun y i hy => ?_, fun k hk => ?_⟩
  · by_cases e : y = q
    · simp only [if_pos e] at hy
      refine ⟨l.length, by simp, ?_, ?_⟩
      · simpa using hy.symm
      · simp [hs, e]
    · simp only [if_neg e] at hy
      obtain ⟨k, hk, h1, h2⟩ := h.at_ y i hy
      exact ⟨k, by simp; omega, h1, by rw [List.getElem_append_left hk]; exact h2⟩
  · by_cases e : k < l.length
    · rw [List.getElem_append_left e]
      have hne : ¬ l[k].key = q := h.miss hq _ (List.getElem_mem e)
      simp only [if_neg hne]
      exact h.of_ k e
    · have : k = l.length := by simp at hk; omega
      subst this
      simp [hs]
theorem MbOk.push {g : Int × List UInt8 → Option Int} {l : List St} (h : MbOk g l) (s : St) (hs : s.ds = []) : MbOk g (l ++ [s]) := by
  intro k d
  rw [h k d]
  constructor
  · rintro ⟨h1, h2⟩
    exact ⟨by simp; omega, by rw [List.getElem_append_left h1]; exact h2⟩
  · rintro ⟨h1, h2⟩
    by_cases e : k < l.length
    · rw [List.getElem_append_left e] at h2
      exact ⟨e, h2⟩
    · have : k = l.length := by simp at h1; omega
      subst this
      simp [hs] at h2
theorem PlOk.set {f : Qn → Option Int} {l : List St} (h : PlOk f l) (i : Nat) (s : St) (hi : i < l.length) (hs : s.key = l[i].key) : PlOk f (l.set i s) := by
  have hk : ∀ k (h1 : k < l.length), ((l.set i s)[k]'(by rw [List.length_set]; exact h1)).key = l[k].key := by
    intro k h1
    rw [List.getElem_set]
    split
    · rename_i e; subst e; exact hs
    · rfl
  refine ⟨fun q j hq => ?_, fun k h1 => ?_⟩
  · obtain ⟨k, h1, h2, h3⟩ := h.at_ q j hq
    exact ⟨k, by rw [List.length_set]; exact h1, h2, by rw [hk k h1]; exact h3⟩
  · rw [List.length_set] at h1
    rw [hk k h1]
    exact h.of_ k h1
theorem MbOk.same {g : Int × List UInt8 → Option Int} {l : List St} (h : MbOk g l) (i : Nat) (s : St) (hi : i < l.length) (hs : s.ds = l[i].ds) : MbOk g (l.set i s) := by
  intro k d
  rw [h k d]
  constructor
  · rintro ⟨h1, h2⟩
    refine ⟨by rw [List.length_set]; exact h1, ?_⟩
    rw [List.getElem_set]
    split
    · rename_i e; subst e; rw [hs]; exact h2
    · exact h2
  · rintro ⟨h1, h2⟩
    rw [List.length_set] at h1
    refine ⟨h1, ?_⟩
    rw [List.getElem_set] at h2
    split at h2
    · rename_i e; subst e; rw [hs] at h2; exact h2
    · exact h2
theorem MbOk.add {g : Int × List UInt8 → Option Int} {l : List St} (h : MbOk g l) (i : Nat) (s : St) (hi : i < l.length) (d : List UInt8) (c : Int) (hs : s.ds = l[i].ds ++ [d]) : MbOk (fun y => if y = ((i : Int), d) then some c else g y) (l.set i s) := by
  intro k x
  by_cases e : k = i ∧ x = d
  · obtain ⟨rfl, rfl⟩ := e
    simp [hi, hs]
  · have hne : ¬ (((k : Int), x) = ((i : Int), d)) := by
      intro e1
      simp only [Prod.mk.injEq] at e1
      exact e ⟨by omega, e1.2⟩
    simp only [if_neg hne]
    rw [h k x]
    constructor
    · rintro ⟨h1, h2⟩
      refine ⟨by rw [List.length_set]; exact h1, ?_⟩
      rw [List.getElem_set]
      split
      · rename_i e1; subst e1; rw [hs, List.mem_append]; exact .inl h2
      · exact h2
    · rintro ⟨h1, h2⟩
      rw [List.length_set] at h1
      refine ⟨h1, ?_⟩
      rw [List.getElem_set] at h2
      split at h2
      · rename_i e1
        subst e1
        rw [hs, List.mem_append, List.mem_singleton] at h2
        rcases h2 with h2 | h2
        · exact h2
        · exact absurd ⟨rfl, h2⟩ e
      · exact h2
theorem map_apart {w : World} {k e : TypeId} {α : Type} {kv : α → Value} {b n : Nat} {f : α → Option Int} (h : MapAt w k e kv b n f) {B : Nat} {ty : TypeId} {c : Nat} {v : Value} {m : Nat} {xs : List Value} (h' : w.ownsRow B ty c v m xs) : some b ≠ v.ownBlock := by
  obtain ⟨D, ⟨es, clock, hb, _⟩, _⟩ := h
  intro e
  rcases h'.2 with ⟨rfl, _⟩ | ⟨a, cap, cur, rfl, _, h1, _⟩
  · simp [Value.ownBlock] at e
  · simp [Value.ownBlock] at e
    subst e
    rw [h1] at hb
    simp at hb
/-- 'm[a] = c', as it runs. -/
theorem MapAt.update {w : World} {k e : TypeId} {α : Type} [DecidableEq α] {kv : α → Value} {b n : Nat} {f : α → Option Int} (h : MapAt w k e kv b n f) (t : TypeId) (K : Go.Maps.Keyed Try.prog k) (ht : Try.prog.underlying t = some (.map k e)) (he : Try.prog.underlying e = some (.int .i64))
    (hinj : ∀ x y, kv x = kv y → x = y) (hn : n < maxLen) (z : α) (hkey : ∃ kl, keyOf Try.prog k (kv z) = some kl) (c : Int) (hc : -9223372036854775808 ≤ c ∧ c ≤ 9223372036854775807) :
    ∃ w', (Instr.mapUpdate t (.map (some b)) (kv z) (.int .i64 c)).run Try.prog w = .ok () w' ∧ MapAt w' k e kv b (n + 1) (fun y => if y = z then some c else f y) ∧ w.grownBy w' (some b) := by
  obtain ⟨kl, hkl⟩ := hkey
  obtain ⟨D, h1, h2⟩ := h
  obtain ⟨w', hrun, h3, h4⟩ := h1.update K ht hn hkl (plainElem_int he (WalkArith.wf_i64 (n := c) (by omega)))
  refine ⟨w', hrun, ⟨_, h3, fun y kl' hy => ?_⟩, h4⟩
  by_cases hyz : y = z
  · subst hyz
    rw [hkl] at hy
    cases hy
    have hk := K.key hkl
    refine ⟨by rw [Maps.has_put_same h1.isMap hk]; simp, fun d hd => ?_⟩
    simp at hd
    subst hd
    exact Maps.atKey_put_same h1.isMap hk _ _
  · have hne : kl' ≠ kl := by
      intro e1
      subst e1
      exact hyz (hinj _ _ (K.inj hy hkl))
    obtain ⟨h5, h6⟩ := h2 y kl' hy
    rw [Maps.has_put_other hne]
    simp only [if_neg hyz]
    exact ⟨h5, fun d hd => by rw [Maps.atKey_put_other hne]; exact h6 d hd⟩
end Go.Proofs.Ytgfaoaabnjblhaa
