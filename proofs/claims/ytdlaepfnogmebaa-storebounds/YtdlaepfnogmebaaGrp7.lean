/- What becomes of sets that a call itself makes: one more; another time; one more of its data. No condition. From of package group. No condition but lengths. -/
import Derived.Test.YtdlaepfnogmebaaGrp5
import Derived.Deep.CutRange
import Derived.Maps.AppendAt
import Derived.Deep.DeepCutAuto
namespace Go.Proofs.Ytdlaepfnogmebaa
open Go.RowKit

theorem rows_apart {w : World} {B B' : Nat} {e e' : TypeId} {c c' : Nat} {v v' : Value} {n n' : Nat} {xs xs' : List Value} (h : w.ownsRow B e c v n xs) (h' : w.ownsRow B' e' c' v' n' xs') (hne : e ≠ e') {g : Nat} (hg : v.ownBlock = some g) : v'.ownBlock ≠ some g := by
  intro hg'
  rcases h.2 with ⟨rfl, _⟩ | ⟨a, cap, cur, rfl, _, h1, _⟩
  · simp [Value.ownBlock] at hg
  rcases h'.2 with ⟨rfl, _⟩ | ⟨b, cap', cur', rfl, _, h2, _⟩
  · simp [Value.ownBlock] at hg'
  simp [Value.ownBlock] at hg hg'
  subst hg hg'
  rw [h1] at h2
  simp at h2
  exact hne h2.2
theorem flat_set {c : Nat} : ∀ (rows : List (List Value)) (_ : ∀ r ∈ rows, r.length = c) (i j : Nat) (hi : i < rows.length) (_ : j < c) (u : Value), rows.flatten.set (i * c + j) u = (rows.set i (rows[i].set j u)).flatten
  | [], _, i, j, hi, _, u => by simp at hi
  | r :: rows, h, 0, j, _, hj, u => by
    have := h r (by simp)
    simp [show j < r.length by omega]
  | r :: rows, h, i + 1, j, hi, hj, u => by
    have hr := h r (by simp)
    have e : (i + 1) * c + j = r.length + (i * c + j) := by rw [Nat.succ_mul, hr]; omega
    have h2 := flat_set rows (fun x hx => h x (by simp [hx])) i j (by simpa using hi) hj u
    rw [List.flatten_cons, e, List.set_append, if_neg (by omega), Nat.add_sub_cancel_left, h2]
    simp
theorem stR_len (x : St × Value) : (stR x).length = 5 := rfl
theorem SetsOwn.len {w : World} {B : Nat} {v : Value} {ss : List (St × Value)} (h : SetsOwn w B v ss) : ∃ a cap, v = .slice a ss.length cap := by
  obtain ⟨a, cap, e⟩ := h.row.form
  exact ⟨a, cap, by rw [e, List.length_map]⟩
theorem SetsOwn.shape {w : World} {B : Nat} {v : Value} {ss : List (St × Value)} (h : SetsOwn w B v ss) (hp : 0 < ss.length) : ∃ g cap, v = .slice (some ⟨g, 0, none⟩) ss.length cap ∧ B ≤ g ∧ g < w.heap.size := by
  rcases h.row.1.2 with ⟨_, hn⟩ | ⟨g, cap, cur, rfl, hB, hg, _⟩
  · rw [List.length_map] at hn; omega
  · exact ⟨g, cap, by rw [List.length_map], hB, (Array.getElem?_eq_some_iff.1 hg).1⟩
/-- The cells of the i-th set. -/
theorem SetsOwn.cell {w : World} {B g cap n : Nat} {ss : List (St × Value)} (h : SetsOwn w B (.slice (some ⟨g, 0, none⟩) n cap) ss) (hn : ss.length = n) (i j : Nat) (hi : i < ss.length) (hj : j < 5) : w.cell? ⟨g, i * 5 + j, none⟩ = (stR ss[i])[j]? := by
  subst hn
  have h1 := h.row.1
  rw [List.length_map] at h1
  rw [World.ownsRow.cellAt h1 (i * 5 + j) (by have : (i + 1) * 5 ≤ ss.length * 5 := Nat.mul_le_mul_right _ hi; omega), flat_get _ h.row.2 i j (by rw [List.length_map]; exact hi) hj]
  rw [List.getElem_map]
theorem SetsOwn.frozen {w : World} {B g cap n : Nat} {ss : List (St × Value)} (h : SetsOwn w B (.slice (some ⟨g, 0, none⟩) n cap) ss) (hn : ss.length = n) (j : Nat) : w.frozen? ⟨g, j, none⟩ = false := by
  subst hn
  have h1 := h.row.1
  rw [List.length_map] at h1
  exact World.ownsRow.frozenAt h1 j
theorem ty_apart : (35 : TypeId) ≠ 9 := by decide
/-- A cell of the i-th set is stored into. -/
theorem SetsOwn.stored {w : World} {B g cap n : Nat} {ss : List (St × Value)} (h : SetsOwn w B (.slice (some ⟨g, 0, none⟩) n cap) ss) (hn : ss.length = n) (i j : Nat) (hi : i < ss.length) (hj : j < 5) (u : Value) :
    OwnsR (w.setCell ⟨g, i * 5 + j, none⟩ u) B 35 5 (.slice (some ⟨g, 0, none⟩) n cap) ((ss.map stR).set i ((stR ss[i]).set j u)) ∧ w.grownBy (w.setCell ⟨g, i * 5 + j, none⟩ u) (some g) := by
  subst hn
  have h1 := h.row.1
  rw [List.length_map] at h1
  have h2 := World.ownsRow.stored h1 (i * 5 + j) u
  refine ⟨⟨?_, ?_⟩, h2.2⟩
  · rw [List.length_set, List.length_map]
    have e := flat_set (ss.map stR) h.row.2 i j (by rw [List.length_map]; exact hi) hj u
    rw [List.getElem_map] at e
    rw [← e]
    exact h2.1
  · intro r hr
    rcases List.mem_or_eq_of_mem_set hr with hr | rfl
    · exact h.row.2 r hr
    · rw [List.length_set]; rfl
/-- Another time. -/
theorem SetsOwn.ttl {w : World} {B g cap n : Nat} {ss : List (St × Value)} (h : SetsOwn w B (.slice (some ⟨g, 0, none⟩) n cap) ss) (hn : ss.length = n) (i : Nat) (hi : i < ss.length) (x : Int) :
    SetsOwn (w.setCell ⟨g, i * 5 + 4, none⟩ (.int .i64 x)) B (.slice (some ⟨g, 0, none⟩) n cap) (ss.set i (⟨ss[i].1.key, ss[i].1.ds, x⟩, ss[i].2)) := by
  obtain ⟨h1, h2⟩ := h.stored hn i 4 hi (by decide) (.int .i64 x)
  have kds : ∀ y ∈ ss, OwnsS (w.setCell ⟨g, i * 5 + 4, none⟩ (.int .i64 x)) B y.2 y.1.ds := fun y hy => World.ownsRow.kept (h.ds y hy) h2 (.inr (rows_apart (g := g) h.row.1 (h.ds y hy) ty_apart rfl))
  refine ⟨?_, ?_, ?_⟩
  · rw [List.map_set]
    exact h1
  · intro y hy
    rcases List.mem_or_eq_of_mem_set hy with hy | rfl
    · exact kds y hy
    · exact kds ss[i] (List.getElem_mem hi)
  · intro a b ha hb hab k
    rw [List.length_set] at ha hb
    simp only [List.getElem_set]
    have e : ∀ (a : Nat) (ha : a < ss.length), (if i = a then ((⟨ss[i].1.key, ss[i].1.ds, x⟩, ss[i].2) : St × Value) else ss[a]).2 = ss[a].2 := by
      intro a ha
      split
      · rename_i e; subst e; rfl
      · rfl
    rw [e a ha, e b hb]
    exact h.apart a b ha hb hab k
/-- One more, that has no data yet. -/
theorem SetsOwn.push {w w' : World} {B : Nat} {v v' : Value} {ss : List (St × Value)} (h : SetsOwn w B v ss) (s : St) (hs : s.ds = []) (ho : OwnsR w' B 35 5 v' (ss.map stR ++ [stL s (.slice none 0 0)])) (hg : w.grownBy w' v.ownBlock) :
    SetsOwn w' B v' (ss ++ [(s, .slice none 0 0)]) := by
  refine ⟨by rw [List.map_append]; exact ho, ?_, ?_⟩
  · intro y hy
    rw [List.mem_append, List.mem_singleton] at hy
    rcases hy with hy | rfl
    · refine World.ownsRow.kept (h.ds y hy) hg ?_
      cases hb : v.ownBlock with
      | none =>
        cases y.2.ownBlock with
        | none => exact .inl rfl
        | some _ => exact .inr (by simp)
      | some g => exact .inr (rows_apart h.row.1 (h.ds y hy) ty_apart hb)
    · show OwnsS w' B (.slice none 0 0) s.ds
      rw [hs]
      exact OwnsS.nil _ _
  · intro a b ha hb hab k hk
    rw [List.length_append] at ha hb
    simp only [List.length_cons, List.length_nil] at ha hb
    by_cases h1 : a < ss.length
    · rw [List.getElem_append_left h1] at hk
      by_cases h2 : b < ss.length
      · rw [List.getElem_append_left h2]
        exact h.apart a b h1 h2 hab k hk
      · have : b = ss.length := by omega
        subst this
        simp [Value.ownBlock]
    · have : a = ss.length := by omega
      subst this
      simp [Value.ownBlock] at hk
/-- One more of its data. -/
theorem SetsOwn.data {w w' : World} {B g cap n : Nat} {ss : List (St × Value)} (h : SetsOwn w B (.slice (some ⟨g, 0, none⟩) n cap) ss) (hn : ss.length = n) (i : Nat) (hi : i < ss.length) (v' : Value) (d : List UInt8)
    (ho : OwnsS w' B v' (ss[i].1.ds ++ [d])) (hg : w.grownBy w' ss[i].2.ownBlock) (hat : v'.ownBlock = ss[i].2.ownBlock ∨ v'.ownBlock = some w.heap.size) :
    SetsOwn (w'.setCell ⟨g, i * 5 + 3, none⟩ v') B (.slice (some ⟨g, 0, none⟩) n cap) (ss.set i (⟨ss[i].1.key, ss[i].1.ds ++ [d], ss[i].1.ttl⟩, v')) := by
  have hne : (Value.slice (some ⟨g, 0, none⟩) n cap).ownBlock ≠ ss[i].2.ownBlock := fun e => rows_apart (g := g) h.row.1 (h.ds _ (List.getElem_mem hi)) ty_apart rfl e.symm
  have row' : OwnsR w' B 35 5 (.slice (some ⟨g, 0, none⟩) n cap) (ss.map stR) := ⟨World.ownsRow.kept h.row.1 hg (.inr hne), h.row.2⟩
  have hst : OwnsR (w'.setCell ⟨g, i * 5 + 3, none⟩ v') B 35 5 (.slice (some ⟨g, 0, none⟩) n cap) ((ss.map stR).set i ((stR ss[i]).set 3 v')) ∧ w'.grownBy (w'.setCell ⟨g, i * 5 + 3, none⟩ v') (some g) := by
    subst hn
    have h1 := row'.1
    rw [List.length_map] at h1
    have h2 := World.ownsRow.stored h1 (i * 5 + 3) v'
    refine ⟨⟨?_, ?_⟩, h2.2⟩
    · rw [List.length_set, List.length_map]
      have e := flat_set (ss.map stR) h.row.2 i 3 (by rw [List.length_map]; exact hi) (by decide) v'
      rw [List.getElem_map] at e
      rw [← e]
      exact h2.1
    · intro r hr
      rcases List.mem_or_eq_of_mem_set hr with hr | rfl
      · exact h.row.2 r hr
      · rw [List.length_set]; rfl
  have kv : OwnsS (w'.setCell ⟨g, i * 5 + 3, none⟩ v') B v' (ss[i].1.ds ++ [d]) := World.ownsRow.kept ho hst.2 (.inr (rows_apart (g := g) row'.1 ho ty_apart rfl))
  have kds : ∀ j (hj : j < ss.length), j ≠ i → OwnsS (w'.setCell ⟨g, i * 5 + 3, none⟩ v') B ss[j].2 ss[j].1.ds := fun j hj hji => by
    have o1 : OwnsS w' B ss[j].2 ss[j].1.ds := by
      refine World.ownsRow.kept (h.ds _ (List.getElem_mem hj)) hg ?_
      cases hb : ss[j].2.ownBlock with
      | none => exact .inl rfl
      | some k => exact .inr (fun e => h.apart j i hj hi hji k hb e.symm)
    exact World.ownsRow.kept o1 hst.2 (.inr (rows_apart (g := g) row'.1 o1 ty_apart rfl))
  refine ⟨?_, ?_, ?_⟩
  · rw [List.map_set]
    exact hst.1
  · intro y hy
    obtain ⟨j, hj, rfl⟩ := List.getElem_of_mem hy
    rw [List.length_set] at hj
    rw [List.getElem_set]
    split
    · exact kv
    · rename_i hji
      exact kds j hj (fun e => hji e.symm)
  · intro a b ha hb hab k hk
    rw [List.length_set] at ha hb
    have old : ∀ j (hj : j < ss.length), j ≠ i → ∀ k, ss[j].2.ownBlock = some k → v'.ownBlock ≠ some k := by
      intro j hj hji k hk e
      rcases hat with h1 | h1
      · rw [h1] at e
        exact h.apart j i hj hi hji k hk e
      · rw [h1] at e
        have := (World.ownsRow.lt (h.ds _ (List.getElem_mem hj)) k hk).2
        simp at e
        omega
    rw [List.getElem_set] at hk ⊢
    by_cases h1 : i = a
    · rw [if_pos h1] at hk
      rw [if_neg (by omega)]
      intro e
      exact old b hb (by omega) k e hk
    · rw [if_neg h1] at hk
      by_cases h2 : i = b
      · rw [if_pos h2]
        exact old a ha (fun e => h1 e.symm) k hk
      · rw [if_neg h2]
        exact h.apart a b ha hb hab k hk

/-! ### What From does with one record -/
theorem layM_hit (k : Qn) (ttl : Int) (d : List UInt8) : ∀ (l : List St) (i : Nat) (hi : i < l.length), l[i].key = k → (∀ j (hj : j < l.length), j < i → l[j].key ≠ k) → layM k ttl d l = l.set i ⟨l[i].key, addD l[i].ds d, min l[i].ttl ttl⟩
  | [], i, hi, _, _ => by simp at hi
  | s :: l, 0, _, hk, _ => by
    have hk' : s.key = k := hk
    rw [layM, if_pos hk']
    rfl
  | s :: l, i + 1, hi, hk, hn => by
    have h0 : s.key ≠ k := hn 0 (by simp) (by omega)
    have ih := layM_hit k ttl d l i (by simpa using hi) (by simpa using hk) (fun j hj hji => by have := hn (j + 1) (by simpa using hj) (by omega); simpa using this)
    rw [layM, if_neg h0, ih]
    rfl
theorem layM_miss (k : Qn) (ttl : Int) (d : List UInt8) : ∀ (l : List St), (∀ s ∈ l, s.key ≠ k) → layM k ttl d l = l ++ [⟨k, [d], ttl⟩]
  | [], _ => rfl
  | s :: l, h => by
    rw [layM, if_neg (h s (by simp)), layM_miss k ttl d l (fun x hx => h x (by simp [hx]))]
    rfl
/-- The map of places tells where each key's set is. -/
structure PlOk (f : Qn → Option Int) (l : List St) : Prop where
  at_ : ∀ q i, f q = some i → ∃ (k : Nat) (h : k < l.length), i = k ∧ l[k].key = q
  of_ : ∀ k (h : k < l.length), f l[k].key = some (k : Int)
/-- The map of members tells which data are there. -/
def MbOk (g : Int × List UInt8 → Option Int) (l : List St) : Prop := ∀ (k : Nat) d, (g ((k : Int), d)).isSome = true ↔ ∃ h : k < l.length, d ∈ l[k].ds
theorem PlOk.nil : PlOk (fun _ => none) [] := ⟨fun q i h => by simp at h, fun k h => by simp at h⟩
theorem MbOk.nil : MbOk (fun _ => none) [] := fun k d => by simp
theorem PlOk.miss {f : Qn → Option Int} {l : List St} (h : PlOk f l) {q : Qn} (hq : f q = none) : ∀ s ∈ l, s.key ≠ q := by
  intro s hs e
  obtain ⟨k, hk, rfl⟩ := List.getElem_of_mem hs
  have := h.of_ k hk
  rw [e, hq] at this
  simp at this
theorem PlOk.push {f : Qn → Option Int} {l : List St} (h : PlOk f l) {q : Qn} (hq : f q = none) (s : St) (hs : s.key = q) : PlOk (fun y => if y = q then some (l.length : Int) else f y) (l ++ [s]) := by
  refine ⟨fun y i hy => ?_, fun k hk => ?_⟩
  · by_cases e : y = q
    · simp only [if_pos e] at hy
      refine ⟨l.length, by simp, ?_, ?_⟩
      · simpa using hy.symm
      · simp [hs, e]
    · simp only [if_neg e] at hy
      obtain ⟨k, hk, h1, h2⟩ := h.at_ y i hy
      exact ⟨k, by simp; omega, h1, by rw [List.getElem_append_left hk]; exact h2⟩
  · by_cases e : k < l.length
    · rw [List.getElem_append_left e]
      have hne : ¬ l[k].key = q := h.miss hq _ (List.getElem_mem e)
      simp only [if_neg hne]
      exact h.of_ k e
    · have : k = l.length := by simp at hk; omega
      subst this
      simp [hs]
theorem MbOk.push {g : Int × List UInt8 → Option Int} {l : List St} (h : MbOk g l) (s : St) (hs : s.ds = []) : MbOk g (l ++ [s]) := by
  intro k d
  rw [h k d]
  constructor
  · rintro ⟨h1, h2⟩
    exact ⟨by simp; omega, by rw [List.getElem_append_left h1]; exact h2⟩
  · rintro ⟨h1, h2⟩
    by_cases e : k < l.length
    · rw [List.getElem_append_left e] at h2
      exact ⟨e, h2⟩
    · have : k = l.length := by simp at h1; omega
      subst this
      simp [hs] at h2
theorem PlOk.set {f : Qn → Option Int} {l : List St} (h : PlOk f l) (i : Nat) (s : St) (hi : i < l.length) (hs : s.key = l[i].key) : PlOk f (l.set i s) := by
  have hk : ∀ k (h1 : k < l.length), ((l.set i s)[k]'(by rw [List.length_set]; exact h1)).key = l[k].key := by
    intro k h1
    rw [List.getElem_set]
    split
    · rename_i e; subst e; exact hs
    · rfl
  refine ⟨fun q j hq => ?_, fun k h1 => ?_⟩
  · obtain ⟨k, h1, h2, h3⟩ := h.at_ q j hq
    exact ⟨k, by rw [List.length_set]; exact h1, h2, by rw [hk k h1]; exact h3⟩
  · rw [List.length_set] at h1
    rw [hk k h1]
    exact h.of_ k h1
theorem MbOk.same {g : Int × List UInt8 → Option Int} {l : List St} (h : MbOk g l) (i : Nat) (s : St) (hi : i < l.length) (hs : s.ds = l[i].ds) : MbOk g (l.set i s) := by
  intro k d
  rw [h k d]
  constructor
  · rintro ⟨h1, h2⟩
    refine ⟨by rw [List.length_set]; exact h1, ?_⟩
    rw [List.getElem_set]
    split
    · rename_i e; subst e; rw [hs]; exact h2
    · exact h2
  · rintro ⟨h1, h2⟩
    rw [List.length_set] at h1
    refine ⟨h1, ?_⟩
    rw [List.getElem_set] at h2
    split at h2
    · rename_i e; subst e; rw [hs] at h2; exact h2
    · exact h2
theorem MbOk.add {g : Int × List UInt8 → Option Int} {l : List St} (h : MbOk g l) (i : Nat) (s : St) (hi : i < l.length) (d : List UInt8) (c : Int) (hs : s.ds = l[i].ds ++ [d]) : MbOk (fun y => if y = ((i : Int), d) then some c else g y) (l.set i s) := by
  intro k x
  by_cases e : k = i ∧ x = d
  · obtain ⟨rfl, rfl⟩ := e
    simp [hi, hs]
  · have hne : ¬ (((k : Int), x) = ((i : Int), d)) := by
      intro e1
      simp only [Prod.mk.injEq] at e1
      exact e ⟨by omega, e1.2⟩
    simp only [if_neg hne]
    rw [h k x]
    constructor
    · rintro ⟨h1, h2⟩
      refine ⟨by rw [List.length_set]; exact h1, ?_⟩
      rw [List.getElem_set]
      split
      · rename_i e1; subst e1; rw [hs, List.mem_append]; exact .inl h2
      · exact h2
    · rintro ⟨h1, h2⟩
      rw [List.length_set] at h1
      refine ⟨h1, ?_⟩
      rw [List.getElem_set] at h2
      split at h2
      · rename_i e1
        subst e1
        rw [hs, List.mem_append, List.mem_singleton] at h2
        rcases h2 with h2 | h2
        · exact h2
        · exact absurd ⟨rfl, h2⟩ e
      · exact h2
theorem map_apart {w : World} {k e : TypeId} {α : Type} {kv : α → Value} {b n : Nat} {f : α → Option Int} (h : MapAt w k e kv b n f) {B : Nat} {ty : TypeId} {c : Nat} {v : Value} {m : Nat} {xs : List Value} (h' : w.ownsRow B ty c v m xs) : some b ≠ v.ownBlock := by
  obtain ⟨D, ⟨es, clock, hb, _⟩, _⟩ := h
  intro e
  rcases h'.2 with ⟨rfl, _⟩ | ⟨a, cap, cur, rfl, _, h1, _⟩
  · simp [Value.ownBlock] at e
  · simp [Value.ownBlock] at e
    subst e
    rw [h1] at hb
    simp at hb
/-- 'm[a] = c', as it runs. -/
theorem MapAt.update {w : World} {k e : TypeId} {α : Type} [DecidableEq α] {kv : α → Value} {b n : Nat} {f : α → Option Int} (h : MapAt w k e kv b n f) (t : TypeId) (K : Go.Maps.Keyed Try.prog k) (ht : Try.prog.underlying t = some (.map k e)) (he : Try.prog.underlying e = some (.int .i64))
    (hinj : ∀ x y, kv x = kv y → x = y) (hn : n < maxLen) (z : α) (hkey : ∃ kl, keyOf Try.prog k (kv z) = some kl) (c : Int) (hc : -9223372036854775808 ≤ c ∧ c ≤ 9223372036854775807) :
    ∃ w', (Instr.mapUpdate t (.map (some b)) (kv z) (.int .i64 c)).run Try.prog w = .ok () w' ∧ MapAt w' k e kv b (n + 1) (fun y => if y = z then some c else f y) ∧ w.grownBy w' (some b) := by
  obtain ⟨kl, hkl⟩ := hkey
  obtain ⟨D, h1, h2⟩ := h
  obtain ⟨w', hrun, h3, h4⟩ := h1.update K ht hn hkl (plainElem_int he (WalkArith.wf_i64 (n := c) (by omega)))
  refine ⟨w', hrun, ⟨_, h3, fun y kl' hy => ?_⟩, h4⟩
  by_cases hyz : y = z
  · subst hyz
    rw [hkl] at hy
    cases hy
    have hk := K.key hkl
    refine ⟨by rw [Maps.has_put_same h1.isMap hk]; simp, fun d hd => ?_⟩
    simp at hd
    subst hd
    exact Maps.atKey_put_same h1.isMap hk _ _
  · have hne : kl' ≠ kl := by
      intro e1
      subst e1
      exact hyz (hinj _ _ (K.inj hy hkl))
    obtain ⟨h5, h6⟩ := h2 y kl' hy
    rw [Maps.has_put_other hne]
    simp only [if_neg hyz]
    exact ⟨h5, fun d hd => by rw [Maps.atKey_put_other hne]; exact h6 d hd⟩
end Go.Proofs.Ytdlaepfnogmebaa

namespace Go.Proofs.Ytdlaepfnogmebaa
open Go.RowKit

/-- A call that answers sets. -/
def SetsEnd (w : World) (l : List St) (e : Ending) (w' : World) : Prop := ∃ v, e = .returned v ∧ SetsAt w' v l ∧ Keeps w w'
theorem SetsEnd.mk {w w' : World} {l : List St} {v : Value} (h : SetsAt w' v l) (k : Keeps w w') : SetsEnd w l (.returned v) w' := ⟨v, rfl, h, k⟩
theorem from_step (l : List Rec) (j : Nat) (hj : j < l.length) : fromM (l.take (j + 1)) = stepM (fromM (l.take j)) l[j] := by
  rw [fromM, List.take_succ_eq_append_getElem hj, List.foldl_append]
  rfl

theorem MapAt.mono {w : World} {k e : TypeId} {α : Type} {kv : α → Value} {b n n' : Nat} {f : α → Option Int} (h : MapAt w k e kv b n f) (hn : n ≤ n') : MapAt w k e kv b n' f := by
  obtain ⟨D, h1, h2⟩ := h
  exact ⟨D, h1.mono hn, h2⟩
theorem key_used {r : Rec} (hu : usedB r = true) : keyM r = ⟨lowS r.n, r.t, r.c⟩ ∧ 0 < (lowS r.n).size ∧ r.t ≠ 41 ∧ (lowS r.n).size ≤ 255 ∧ (0 ≤ r.t ∧ r.t ≤ 65535) ∧ (0 ≤ r.c ∧ r.c ≤ 65535) := by
  simp only [usedB, Bool.and_eq_true, decide_eq_true_eq] at hu
  obtain ⟨hok, h41⟩ := hu
  have h1 : keyM r = ⟨lowS r.n, r.t, r.c⟩ := by rw [keyM, if_pos hok]
  simp only [recOk, num2, Bool.and_eq_true, decide_eq_true_eq] at hok
  have hn := hok.1.1.1.1
  have hz : (lowS r.n).size = (bl r.n).length := by
    rw [lowS, if_pos hn]
    show (Nm.lowL (bl r.n)).toArray.size = _
    simp [Nm.lowL]
  have hb := ((Nm.okL_spec _).1 hn).1
  refine ⟨h1, ?_, h41, by omega, hok.1.1.1.2, hok.1.1.2⟩
  rw [hz]
  rcases Nat.eq_zero_or_pos (bl r.n).length with h0 | h0
  · have : bl r.n = [] := List.length_eq_zero_iff.1 h0
    rw [this] at hn
    exact absurd hn (by decide)
  · exact h0
theorem key_skip {r : Rec} (hu : usedB r = false) : (keyM r).n.size = 0 ∨ (keyM r).t = 41 := by
  by_cases hok : recOk r = true
  · right
    have h1 : keyM r = ⟨lowS r.n, r.t, r.c⟩ := by rw [keyM, if_pos hok]
    rw [h1]
    simp only [usedB, hok, Bool.true_and, decide_eq_false_iff_not, Decidable.not_not, ne_eq] at hu
    exact hu
  · left
    rw [keyM, if_neg hok]
    rfl

theorem map_blk {w : World} {k e : TypeId} {α : Type} {kv : α → Value} {b n : Nat} {f : α → Option Int} (h : MapAt w k e kv b n f) {G : Nat} {cs : Array Value} {ty : TypeId} (hB : Blk w G cs ty) : b ≠ G := by
  obtain ⟨D, ⟨es, clock, hb, _⟩, _⟩ := h
  rintro rfl
  unfold Blk at hB
  rw [hB] at hb
  simp at hb
theorem row_blk {w : World} {B : Nat} {e : TypeId} {c : Nat} {v : Value} {n : Nat} {xs : List Value} (h : w.ownsRow B e c v n xs) {G : Nat} {cs : Array Value} {ty : TypeId} (hB : Blk w G cs ty) (hne : e ≠ ty) : v.ownBlock ≠ some G := by
  intro hg
  rcases h.2 with ⟨rfl, _⟩ | ⟨a, cap, cur, rfl, _, h1, _⟩
  · simp [Value.ownBlock] at hg
  simp [Value.ownBlock] at hg
  subst hg
  unfold Blk at hB
  rw [hB] at h1
  simp at h1
  exact hne h1.2.symm
theorem Blk.grown {w w' : World} {G : Nat} {cs : Array Value} {ty : TypeId} (h : Blk w G cs ty) {row : Option Nat} (hg : w.grownBy w' row) (hne : row ≠ some G) : Blk w' G cs ty :=
  (hg.block G h.lt (fun e => hne e.symm)).trans h
theorem Keeps.grown {w wr w' : World} (k : Keeps w wr) {row : Option Nat} (hg : wr.grownBy w' row) (hB : ∀ g, row = some g → w.heap.size ≤ g) : Keeps w w' := Below.grown k hg k.size (fun g h => hB g h)
theorem SetsOwn.grown {w w' : World} {B : Nat} {v : Value} {ss : List (St × Value)} (h : SetsOwn w B v ss) {b : Nat} {k e : TypeId} {α : Type} {kv : α → Value} {n : Nat} {f : α → Option Int} (hm : MapAt w k e kv b n f) (hg : w.grownBy w' (some b)) : SetsOwn w' B v ss :=
  ⟨⟨World.ownsRow.kept h.row.1 hg (.inr (map_apart hm h.row.1).symm), h.row.2⟩, fun x hx => World.ownsRow.kept (h.ds x hx) hg (.inr (map_apart hm (h.ds x hx)).symm), h.apart⟩
/-- 'l = append(l, x)', x a struct of c cells: what has turned. -/
theorem wpList_appRg (ty sty : TypeId) (c bytes : Nat) (z : Value) (w : World) {ops : Array Oper} {rest : List Oper} {o : Oper} {a : Act} {Q : Exit → Act → World → Prop}
    (hu : Try.prog.underlying sty = some (.slice ty)) (hinfo : (Try.prog.info? ty).map (fun i => (i.zero, i.size, i.bytes)) = some (some z, c, bytes)) (hz : z.cells.size = c) (hc0 : 0 < c)
    (hgd : o.guard = none) (s x : Operand)
    (ho : o.op = .call { callee := .builtin .append, args := #[s, x], argTypes := #[sty, sty] })
    (B : Nat) (v : Value) (l : List (List Value)) (hs : a.eval s = v) (hown : OwnsR w B ty c v l) (ad : Addr) (cp : Nat) (b : List Value) (hx : a.eval x = .slice (some ad) 1 cp)
    (hb : b.length = c) (hone : ∀ u ∈ b, u.oneCell' = true)
    (hcell : ∀ j u, b[j]? = some u → w.cell? (ad.add j) = some u) (hlen : l.length + 1 ≤ maxLen) (hbytes : (l.length + 1) * bytes ≤ 140737488355328) (hB : B ≤ w.heap.size)
    (h : ∀ v' w', OwnsR w' B ty c v' (l ++ [b]) → w.grownBy w' v.ownBlock → wpList Try.prog ops Q rest (a.put o.dst v') w') : wpList Try.prog ops Q (o :: rest) a w := by
  obtain ⟨i0, hi, hz0, hz1, hz2⟩ := info_parts hinfo
  refine wpList_append_own w hgd s x sty ho B ty i0 z c bytes hu hi hz0 hz1 hz2 hz hc0 v l.length l.flatten hs hown.1 ad 1 cp b hx (by omega) hcell hone hlen hbytes hB ?_
  intro v' w' h2 h3 _
  refine h v' w' ⟨?_, ?_⟩ h3
  · rw [List.length_append, List.flatten_append]
    simpa using h2
  · intro r hr
    rw [List.mem_append] at hr
    rcases hr with hr | hr
    · exact hown.2 r hr
    · simp at hr; subst hr; exact hb
theorem lowD_len (k : Int) (d : List UInt8) : (Dt.lowD k d).length ≤ 65535 := by
  unfold Dt.lowD
  match h : Dt.wholeL k d with
  | none => simp
  | some x =>
    have h1 := (Dt.wholeL_join h).1
    have h2 := (Dt.whole_names h).2.2
    have h3 : (x.ns.map Nm.lowL).flatten.length = x.ns.flatten.length := by
      have : ∀ l : List (List UInt8), (l.map Nm.lowL).flatten.length = l.flatten.length := by
        intro l
        induction l with
        | nil => rfl
        | cons a l ih => rw [List.map_cons, List.flatten_cons, List.length_append, ih, List.flatten_cons, List.length_append]; simp [Nm.lowL]
      exact this _
    rw [← h1] at h2
    simp only [Dt.Pt.join, List.length_append] at h2
    simp only [List.length_append, h3]
    exact h2
theorem tyS_RR : (35 : TypeId) ≠ 161 := by decide
theorem tyS_Q : (35 : TypeId) ≠ 32 := by decide

theorem OwnsS.formS {w : World} {B : Nat} {v : Value} {l : List (List UInt8)} (h : OwnsS w B v l) : ∃ a cap, v = .slice a l.length cap := by
  rcases h.2 with ⟨rfl, hn⟩ | ⟨g, cap, cur, rfl, _⟩
  · exact ⟨none, 0, by rw [hn]⟩
  · exact ⟨_, cap, rfl⟩
theorem infoStr : (Try.prog.info? 9).map (fun i => (i.zero, i.size, i.bytes)) = some (some (.string ⟨#[]⟩), 1, 16) := by kernel_rfl
/-- 'l = append(l, x)', x a text, as one step of a region that draws; where the new slice lies. -/
theorem step_appSat {w : World} {ops : Array Oper} {o : Oper} {a : Act} {K : Act → World → Prop} {Q : Exit → Act → World → Prop} {E : Prop} (hgd : o.guard = none) (s x : Operand)
    (ho : o.op = .call { callee := .builtin .append, args := #[s, x], argTypes := #[33, 33] })
    (B : Nat) (v : Value) (l : List (List UInt8)) (hs : a.eval s = v) (hown : OwnsS w B v l) (ad : Addr) (c : Nat) (b : List UInt8) (hx : a.eval x = .slice (some ad) 1 c)
    (hcell : w.cell? ad = some (sv b)) (hlen : l.length + 1 ≤ 1099511627776) (hB : B ≤ w.heap.size)
    (h : ∀ v' w', OwnsS w' B v' (l ++ [b]) → w.grownBy w' v.ownBlock → (v'.ownBlock = v.ownBlock ∨ v'.ownBlock = some w.heap.size) → K (a.put o.dst v') w') :
    if Region.wanted o (yielded ops a.tmps) = true then Oper.wp Try.prog o a w K Q else E := by
  have hw : Region.wanted o (yielded ops a.tmps) = true := by simp [Region.wanted, hgd]
  rw [if_pos hw]
  obtain ⟨i0, hi, hz0, hz1, hz2⟩ := info_parts infoStr
  obtain ⟨v', w', hr, h2, h3, h4, h5⟩ := run_append_own_at (P := Try.prog) w B 33 o.type 9 i0 (.string ⟨#[]⟩) 1 16 Try.underlying33 hi hz0 hz1 hz2 rfl (by decide) v l.length (l.map sv) hown ad 1 c [sv b] rfl (by
    intro j u hu
    match j, hu with
    | 0, hu =>
      simp at hu
      subst hu
      have : ad.add 0 = ad := by simp [Addr.add]
      rw [this]
      exact hcell) (sv_oneCell [b]) (by unfold maxLen; omega) (by omega) hB
  unfold Oper.wp execOp
  simp only [ho, resolve, invoke, builtin, Sem.run_bind, Sem.run_pure, Result.andThen_ok, List.map_toArray, List.map_cons, List.map_nil, hs, hx, hr]
  refine h v' w' ?_ h3 h5
  unfold OwnsS
  rw [List.length_append, List.map_append]
  exact h2
theorem SetsOwn.cell3 {w w' : World} {B g cap n : Nat} {ss : List (St × Value)} (h : SetsOwn w B (.slice (some ⟨g, 0, none⟩) n cap) ss) (hn : ss.length = n) (i : Nat) (hi : i < ss.length) (hg : w.grownBy w' ss[i].2.ownBlock) : w'.cell? ⟨g, i * 5 + 3, none⟩ = some ss[i].2 ∧ w'.frozen? ⟨g, i * 5 + 3, none⟩ = false := by
  have hne : (Value.slice (some ⟨g, 0, none⟩) n cap).ownBlock ≠ ss[i].2.ownBlock := fun e => rows_apart (g := g) h.row.1 (h.ds _ (List.getElem_mem hi)) ty_apart rfl e.symm
  have row' : w'.ownsRow B 35 5 (.slice (some ⟨g, 0, none⟩) n cap) ss.length (ss.map stR).flatten := by
    have := World.ownsRow.kept h.row.1 hg (.inr hne)
    rw [List.length_map] at this
    exact this
  subst hn
  refine ⟨?_, World.ownsRow.frozenAt row' _⟩
  rw [World.ownsRow.cellAt row' (i * 5 + 3) (by have : (i + 1) * 5 ≤ ss.length * 5 := Nat.mul_le_mul_right _ hi; omega), flat_get _ h.row.2 i 3 (by rw [List.length_map]; exact hi) (by decide), List.getElem_map]
  rfl

end Go.Proofs.Ytdlaepfnogmebaa
