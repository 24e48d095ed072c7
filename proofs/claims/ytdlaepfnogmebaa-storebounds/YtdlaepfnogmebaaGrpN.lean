/- Plain functions: what is told of sets that records come to. No condition. Where sets lie, and what the document's Sets tells of two lists. No condition but lengths. -/
import Derived.Test.YtdlaepfnogmebaaGrp7
import Derived.Test.YtdlaepfnogmebaaGrpA
namespace Go.Proofs.Ytdlaepfnogmebaa
open Go.RowKit

theorem ba_of (n : ByteArray) (l : List UInt8) (h : bl n = l) : n = ⟨l.toArray⟩ := by
  subst h
  cases n
  simp [bl]
theorem ba_ext {n m : ByteArray} (h : bl n = bl m) : n = m := (ba_of n _ h).trans (ba_of m _ rfl).symm
theorem lowS_twice (n : ByteArray) (h : Nm.okL (bl n) = true) : lowS (lowS n) = lowS n := by
  have h2 : Nm.okL (bl (lowS n)) = true := by rw [lowS_yes n h, Nm.ok_low]; exact h
  exact ba_ext (by rw [lowS_yes _ h2, lowS_yes _ h, Nm.lowL_twice])
theorem okL_lowS (n : ByteArray) (h : Nm.okL (bl n) = true) : Nm.okL (bl (lowS n)) = true := by rw [lowS_yes n h, Nm.ok_low]; exact h
theorem checkB_low {k : Int} {d : List UInt8} (h : Dt.checkB k d = true) : Dt.checkB k (Dt.lowD k d) = true ∧ Dt.lowD k (Dt.lowD k d) = Dt.lowD k d := by
  rw [Dt.checkB, Option.isSome_iff_exists] at h
  obtain ⟨x, hx⟩ := h
  have hw := Dt.low_whole hx
  rw [lowD_some hx]
  exact ⟨by rw [Dt.checkB, hw]; rfl, by rw [lowD_some hw, Dt.low_twice]⟩
theorem recOk_parts {r : Rec} : recOk r = true ↔ Nm.okL (bl r.n) = true ∧ num2 r.t = true ∧ num2 r.c = true ∧ (0 ≤ r.l ∧ r.l ≤ 2147483647) ∧ Dt.checkB r.t (bl r.d) = true := by
  simp only [recOk, Bool.and_eq_true, decide_eq_true_eq, and_assoc]
theorem keyM_yes {r : Rec} (h : recOk r = true) : keyM r = ⟨lowS r.n, r.t, r.c⟩ := by rw [keyM, if_pos h]
/-- What is laid first of a key. -/
theorem dataOk_low {r : Rec} (h : recOk r = true) (t : Int) (ht : 0 ≤ t ∧ t ≤ 2147483647) : dataOk (keyM r) t (lowR r) = true := by
  obtain ⟨h1, h2, h3, h4, h5⟩ := recOk_parts.1 h
  obtain ⟨c1, c2⟩ := checkB_low h5
  rw [keyM_yes h, dataOk, Bool.and_eq_true, beq_iff_eq]
  refine ⟨recOk_parts.2 ⟨okL_lowS _ h1, h2, h3, ht, ?_⟩, c2⟩
  show Dt.checkB r.t (bl ⟨(lowR r).toArray⟩) = true
  rw [bl_of]
  exact c1
theorem dataOk_ttl {q : Qn} {t : Int} {d : List UInt8} (h : dataOk q t d = true) (u : Int) (hu : 0 ≤ u ∧ u ≤ 2147483647) : dataOk q u d = true := by
  rw [dataOk, Bool.and_eq_true] at h ⊢
  obtain ⟨h1, h2, h3, h4, h5⟩ := recOk_parts.1 h.1
  exact ⟨recOk_parts.2 ⟨h1, h2, h3, hu, h5⟩, h.2⟩
theorem dataOk_time {q : Qn} {t : Int} {d : List UInt8} (h : dataOk q t d = true) : 0 ≤ t ∧ t ≤ 2147483647 := by
  rw [dataOk, Bool.and_eq_true] at h
  exact (recOk_parts.1 h.1).2.2.2.1

theorem stOk_parts {s : St} : stOk s = true ↔ s.ds ≠ [] ∧ lowS s.key.n = s.key.n ∧ (∀ d ∈ s.ds, dataOk s.key s.ttl d = true) ∧ s.ds.Nodup := by
  simp only [stOk, Bool.and_eq_true, decide_eq_true_eq, and_assoc, List.all_eq_true]
theorem stOk_time {s : St} (h : stOk s = true) : 0 ≤ s.ttl ∧ s.ttl ≤ 2147483647 := by
  obtain ⟨h1, h2, h3, h4⟩ := stOk_parts.1 h
  obtain ⟨d, hd⟩ := List.exists_mem_of_ne_nil _ h1
  exact dataOk_time (h3 d hd)

/-! ### The records of a set. -/
theorem turned_mem {α : Type} (l : List α) (k : Nat) (x : α) : x ∈ turned l k ↔ x ∈ l := by
  unfold turned
  rw [List.mem_append]
  constructor
  · rintro (h | h)
    · exact List.mem_of_mem_drop h
    · exact List.mem_of_mem_take h
  · intro h
    rw [← List.take_append_drop (k % l.length) l, List.mem_append] at h
    exact h.symm
theorem turned_nodup {α : Type} (l : List α) (k : Nat) (h : l.Nodup) : (turned l k).Nodup := by
  unfold turned
  rw [← List.take_append_drop (k % l.length) l, List.nodup_append] at h
  rw [List.nodup_append]
  exact ⟨h.2.1, h.1, fun a ha b hb e => h.2.2 b hb a ha e.symm⟩
theorem turned_mod {α : Type} (l : List α) (k : Nat) : turned l (k % l.length) = turned l k := by
  unfold turned
  rw [Nat.mod_mod]
theorem step_one {q : Qn} {t : Int} {d : List UInt8} (h : dataOk q t d = true) (hq : lowS q.n = q.n) (ho : q.t ≠ 41) (l : List St) : stepM l (oneM q t d) = layM q t d l := by
  rw [dataOk, Bool.and_eq_true, beq_iff_eq] at h
  have hu : usedB (oneM q t d) = true := by
    rw [usedB, h.1, Bool.true_and]
    exact decide_eq_true ho
  have hk : keyM (oneM q t d) = q := by
    rw [keyM_yes h.1]
    show (⟨lowS q.n, q.t, q.c⟩ : Qn) = q
    rw [hq]
  have hd : lowR (oneM q t d) = d := by
    show Dt.lowD q.t (bl ⟨d.toArray⟩) = d
    rw [bl_of]
    exact h.2
  rw [stepM, if_pos hu, hk, hd]
  rfl
theorem fold_one {q : Qn} {t : Int} (hq : lowS q.n = q.n) (ho : q.t ≠ 41) : ∀ (ds es : List (List UInt8)), (∀ d ∈ ds, dataOk q t d = true) → (es ++ ds).Nodup →
    (ds.map (oneM q t)).foldl stepM [⟨q, es, t⟩] = [⟨q, es ++ ds, t⟩]
  | [], es, _, _ => by simp
  | d :: ds, es, h, hn => by
    have hd : d ∉ es := by
      rw [List.nodup_append] at hn
      intro hm
      exact hn.2.2 d hm d (by simp) rfl
    rw [List.map_cons, List.foldl_cons, step_one (h d (by simp)) hq ho, layM, if_pos rfl, addD, if_neg hd]
    rw [show min t t = t by omega]
    have := fold_one hq ho ds (es ++ [d]) (fun x hx => h x (by simp [hx])) (by simpa using hn)
    rw [this]
    simp
theorem from_flat {s : St} {t k : Int} (h : stOk s = true) (ht : 0 ≤ t ∧ t ≤ 2147483647) (hk : 0 ≤ k) (ho : s.key.t ≠ 41) : fromM (flatM s t k) = [⟨s.key, turned s.ds k.toNat, t⟩] := by
  obtain ⟨h1, h2, h3, h4⟩ := stOk_parts.1 h
  have hn := turned_nodup s.ds k.toNat h4
  have hne : turned s.ds k.toNat ≠ [] := by
    rw [← List.length_pos_iff, turned_length]
    exact List.length_pos_iff.2 h1
  have hall : ∀ d ∈ turned s.ds k.toNat, dataOk s.key t d = true := fun d hd => dataOk_ttl (h3 d ((turned_mem _ _ _).1 hd)) t ht
  unfold flatM fromM
  rw [h, decide_eq_true ht, decide_eq_true hk]
  simp only [Bool.and_self, if_true]
  generalize turned s.ds k.toNat = L at *
  match L, hne with
  | d :: ds, _ =>
    rw [List.map_cons, List.foldl_cons, step_one (hall d (by simp)) h2 ho, layM]
    exact fold_one h2 ho ds [d] (fun x hx => hall x (by simp [hx])) (by simpa using hn)
theorem fold_opt {q : Qn} {t : Int} (ho : q.t = 41) : ∀ (ds : List (List UInt8)), (ds.map (oneM q t)).foldl stepM [] = []
  | [] => rfl
  | d :: ds => by
    have hu : usedB (oneM q t d) = false := by
      rw [usedB, show decide ((oneM q t d).t ≠ 41) = false from decide_eq_false (fun h => h ho), Bool.and_false]
    rw [List.map_cons, List.foldl_cons, stepM, hu]
    exact fold_opt ho ds
theorem from_opt {s : St} {t k : Int} (ho : s.key.t = 41) : fromM (flatM s t k) = [] := by
  unfold flatM fromM
  split
  · exact fold_opt ho _
  · rfl
theorem flat_yes {s : St} {t k : Int} (h : stOk s = true) (ht : 0 ≤ t ∧ t ≤ 2147483647) (hk : 0 ≤ k) : flatM s t k = (turned s.ds k.toNat).map (oneM s.key t) := by
  unfold flatM
  rw [h, decide_eq_true ht, decide_eq_true hk]
  simp
theorem flat_no {s : St} {t k : Int} (h : ¬ (0 ≤ t ∧ t ≤ 2147483647) ∨ ¬ 0 ≤ k) : flatM s t k = [] := by
  unfold flatM
  rcases h with h | h
  · rw [decide_eq_false h]; simp
  · rw [decide_eq_false h]; simp

/-! ### The sets of any records. -/
theorem layM_mem {k : Qn} {t : Int} {d : List UInt8} : ∀ {l : List St} {x : St}, x ∈ layM k t d l → x ∈ l ∨ x = ⟨k, [d], t⟩ ∨ ∃ s ∈ l, s.key = k ∧ x = ⟨s.key, addD s.ds d, min s.ttl t⟩
  | [], x, h => by
    rw [layM, List.mem_singleton] at h
    exact .inr (.inl h)
  | s :: l, x, h => by
    rw [layM] at h
    split at h
    · rename_i hk
      rcases List.mem_cons.1 h with h | h
      · exact .inr (.inr ⟨s, by simp, hk, h⟩)
      · exact .inl (by simp [h])
    · rcases List.mem_cons.1 h with h | h
      · exact .inl (by simp [h])
      · rcases layM_mem h with h | h | ⟨y, hy, e⟩
        · exact .inl (by simp [h])
        · exact .inr (.inl h)
        · exact .inr (.inr ⟨y, by simp [hy], e⟩)
theorem layM_keys (k : Qn) (t : Int) (d : List UInt8) : ∀ (l : List St), (layM k t d l).map (·.key) = if k ∈ l.map (·.key) then l.map (·.key) else l.map (·.key) ++ [k]
  | [] => by simp [layM]
  | s :: l => by
    rw [layM]
    by_cases hk : s.key = k
    · simp [hk]
    · have ih := layM_keys k t d l
      have hk2 : ¬ k = s.key := fun e => hk e.symm
      simp only [if_neg hk, List.map_cons, ih, List.mem_cons, hk2, false_or]
      split <;> simp
theorem nodup_snoc {α : Type} {l : List α} {x : α} (h : l.Nodup) (hx : x ∉ l) : (l ++ [x]).Nodup := by
  rw [List.nodup_append]
  refine ⟨h, by simp, fun a ha b hb e => ?_⟩
  rw [List.mem_singleton] at hb
  subst hb e
  exact hx ha
theorem addD_nodup {l : List (List UInt8)} {d : List UInt8} (h : l.Nodup) : (addD l d).Nodup := by
  unfold addD
  split
  · exact h
  · rename_i hx
    exact nodup_snoc h hx
theorem addD_mem {l : List (List UInt8)} {d x : List UInt8} (h : x ∈ addD l d) : x ∈ l ∨ x = d := by
  unfold addD at h
  split at h
  · exact .inl h
  · simpa using h
theorem addD_ne (l : List (List UInt8)) (d : List UInt8) : addD l d ≠ [] := by
  unfold addD
  split
  · rename_i h
    intro e
    rw [e] at h
    simp at h
  · simp
/-- Each record that is used is in the set of its key, that lives no longer than it. -/
theorem layM_there (k : Qn) (t : Int) (d : List UInt8) : ∀ (l : List St), ∃ s ∈ layM k t d l, s.key = k ∧ s.ttl ≤ t
  | [] => ⟨⟨k, [d], t⟩, by simp [layM], rfl, by show t ≤ t; omega⟩
  | s :: l => by
    rw [layM]
    by_cases hk : s.key = k
    · rw [if_pos hk]
      exact ⟨⟨s.key, addD s.ds d, min s.ttl t⟩, by simp, hk, by show min s.ttl t ≤ t; omega⟩
    · rw [if_neg hk]
      obtain ⟨x, hx, e⟩ := layM_there k t d l
      exact ⟨x, by simp [hx], e⟩
theorem layM_stays {k q : Qn} {t u : Int} {d : List UInt8} : ∀ {l : List St}, (∃ s ∈ l, s.key = q ∧ s.ttl ≤ u) → ∃ s ∈ layM k t d l, s.key = q ∧ s.ttl ≤ u
  | [], h => by simp at h
  | s :: l, ⟨x, hx, e1, e2⟩ => by
    rw [layM]
    by_cases hk : s.key = k
    · rw [if_pos hk]
      rcases List.mem_cons.1 hx with rfl | hx
      · exact ⟨⟨x.key, addD x.ds d, min x.ttl t⟩, by simp, e1, by show min x.ttl t ≤ u; omega⟩
      · exact ⟨x, by simp [hx], e1, e2⟩
    · rw [if_neg hk]
      rcases List.mem_cons.1 hx with rfl | hx
      · exact ⟨x, by simp, e1, e2⟩
      · obtain ⟨y, hy, e⟩ := layM_stays (k := k) (t := t) (d := d) ⟨x, hx, e1, e2⟩
        exact ⟨y, by simp [hy], e⟩
structure Fine10 (l : List St) : Prop where
  ok : ∀ s ∈ l, stOk s = true
  keys : (l.map (·.key)).Nodup
theorem Fine10.step {l : List St} (h : Fine10 l) (r : Rec) : Fine10 (stepM l r) := by
  unfold stepM
  split
  · rename_i hu
    simp only [usedB, Bool.and_eq_true, decide_eq_true_eq] at hu
    have hr := hu.1
    obtain ⟨p1, p2, p3, p4, p5⟩ := recOk_parts.1 hr
    constructor
    · intro x hx
      rcases layM_mem hx with hx | rfl | ⟨s, hs, hk, rfl⟩
      · exact h.ok x hx
      · refine stOk_parts.2 ⟨by simp, ?_, ?_, by simp⟩
        · rw [keyM_yes hr]
          exact lowS_twice _ p1
        · intro d hd
          rw [List.mem_singleton] at hd
          subst hd
          exact dataOk_low hr r.l p4
      · obtain ⟨h1, h2, h3, h4⟩ := stOk_parts.1 (h.ok s hs)
        have ht := stOk_time (h.ok s hs)
        refine stOk_parts.2 ⟨addD_ne _ _, h2, ?_, addD_nodup h4⟩
        intro d hd
        rcases addD_mem hd with hd | rfl
        · exact dataOk_ttl (h3 d hd) _ (by show 0 ≤ min s.ttl r.l ∧ min s.ttl r.l ≤ 2147483647; omega)
        · show dataOk s.key (min s.ttl r.l) (lowR r) = true
          rw [hk]
          exact dataOk_low hr _ (by omega)
    · rw [layM_keys]
      split
      · exact h.keys
      · rename_i hx
        exact nodup_snoc h.keys hx
  · exact h
theorem fold_fine : ∀ (l : List Rec) (a : List St), Fine10 a → Fine10 (l.foldl stepM a)
  | [], _, h => h
  | r :: l, a, h => fold_fine l (stepM a r) (h.step r)
theorem from_fine (l : List Rec) : Fine10 (fromM l) := fold_fine l [] ⟨by simp, by simp⟩
theorem fold_stays {q : Qn} {u : Int} : ∀ (l : List Rec) (a : List St), (∃ s ∈ a, s.key = q ∧ s.ttl ≤ u) → ∃ s ∈ l.foldl stepM a, s.key = q ∧ s.ttl ≤ u
  | [], _, h => h
  | r :: l, a, h => by
    refine fold_stays l (stepM a r) ?_
    unfold stepM
    split
    · exact layM_stays h
    · exact h
theorem fold_there : ∀ (l : List Rec) (a : List St) (r : Rec), r ∈ l → usedB r = true → ∃ s ∈ l.foldl stepM a, s.key = keyM r ∧ s.ttl ≤ r.l
  | [], _, _, h, _ => by simp at h
  | x :: l, a, r, h, hu => by
    rcases List.mem_cons.1 h with rfl | h
    · refine fold_stays l (stepM a r) ?_
      rw [stepM, if_pos hu]
      exact layM_there _ _ _ _
    · exact fold_there l (stepM a x) r h hu
theorem from_there {l : List Rec} {r : Rec} (h : r ∈ l) (hu : usedB r = true) : ∃ s ∈ fromM l, s.key = keyM r ∧ s.ttl ≤ r.l := fold_there l [] r h hu

/-! ### Letters. -/
/-- A record in small letters. -/
def lowRec (r : Rec) : Rec := if recOk r then ⟨lowS r.n, r.t, r.c, r.l, ⟨(Dt.lowD r.t (bl r.d)).toArray⟩⟩ else r
theorem low_step (a : List St) (r : Rec) : stepM a (lowRec r) = stepM a r := by
  by_cases h : recOk r = true
  · obtain ⟨h1, h2, h3, h4, h5⟩ := recOk_parts.1 h
    obtain ⟨c1, c2⟩ := checkB_low h5
    have h' : recOk ⟨lowS r.n, r.t, r.c, r.l, ⟨(Dt.lowD r.t (bl r.d)).toArray⟩⟩ = true := recOk_parts.2 ⟨okL_lowS _ h1, h2, h3, h4, by show Dt.checkB r.t (bl ⟨(Dt.lowD r.t (bl r.d)).toArray⟩) = true; rw [bl_of]; exact c1⟩
    have hu : usedB ⟨lowS r.n, r.t, r.c, r.l, ⟨(Dt.lowD r.t (bl r.d)).toArray⟩⟩ = usedB r := by rw [usedB, usedB, h, h']
    have hk : keyM ⟨lowS r.n, r.t, r.c, r.l, ⟨(Dt.lowD r.t (bl r.d)).toArray⟩⟩ = keyM r := by
      rw [keyM_yes h, keyM_yes h']
      show (⟨lowS (lowS r.n), r.t, r.c⟩ : Qn) = _
      rw [lowS_twice _ h1]
    have hd : lowR ⟨lowS r.n, r.t, r.c, r.l, ⟨(Dt.lowD r.t (bl r.d)).toArray⟩⟩ = lowR r := by
      show Dt.lowD r.t (bl ⟨(Dt.lowD r.t (bl r.d)).toArray⟩) = Dt.lowD r.t (bl r.d)
      rw [bl_of]
      exact c2
    rw [lowRec, if_pos h, stepM, stepM, hu, hk, hd]
  · rw [lowRec, if_neg h]
theorem fold_low : ∀ (l : List Rec) (a : List St), (l.map lowRec).foldl stepM a = l.foldl stepM a
  | [], _ => rfl
  | r :: l, a => by rw [List.map_cons, List.foldl_cons, List.foldl_cons, low_step, fold_low l]
theorem from_low (l : List Rec) : fromM (l.map lowRec) = fromM l := fold_low l []
end Go.Proofs.Ytdlaepfnogmebaa

namespace Go.Proofs.Ytdlaepfnogmebaa
open Go.RowKit

/-- Where one set lies. -/
def OneAt (w : World) (g o : Nat) (x : St) (vx : Value) : Prop := w.cell? ⟨g, o, none⟩ = some (.string x.key.n) ∧ w.cell? ⟨g, o + 1, none⟩ = some (.int .i64 x.key.t) ∧ w.cell? ⟨g, o + 2, none⟩ = some (.int .i64 x.key.c) ∧ w.cell? ⟨g, o + 3, none⟩ = some (vx) ∧ w.cell? ⟨g, o + 4, none⟩ = some (.int .i64 x.ttl) ∧ g < w.heap.size
theorem OneAt.keeps {w w' : World} {g o : Nat} {x : St} {vx : Value} (h : OneAt w g o x vx) (k : Keeps w w') : OneAt w' g o x vx := by
  obtain ⟨h0, h1, h2, h3, h4, hl⟩ := h
  exact ⟨(Below.cell (p := ⟨g, o, none⟩) k hl).trans h0, (Below.cell (p := ⟨g, o + 1, none⟩) k hl).trans h1, (Below.cell (p := ⟨g, o + 2, none⟩) k hl).trans h2, (Below.cell (p := ⟨g, o + 3, none⟩) k hl).trans h3, (Below.cell (p := ⟨g, o + 4, none⟩) k hl).trans h4, Nat.lt_of_lt_of_le hl k.size⟩
theorem no_set {w : World} {v : Value} (h : SetsAt w v []) : ∃ a cap, v = .slice a 0 cap := by
  obtain ⟨ss, h1, h2, h3⟩ := h
  rw [List.map_eq_nil_iff] at h1
  subst h1
  obtain ⟨ad, cap, rfl, _, _⟩ := h2
  exact ⟨ad, cap, rfl⟩
theorem SetsAt.keeps {w w' : World} {v : Value} {l : List St} (h : SetsAt w v l) (k : Keeps w w') : SetsAt w' v l := by
  obtain ⟨ss, h1, h2, h3⟩ := h
  exact ⟨ss, h1, h2.keeps k, fun x hx => (h3 x hx).keeps k⟩
theorem SetsAt.len {w : World} {v : Value} {l : List St} (h : SetsAt w v l) : ∃ a cap, v = .slice a l.length cap := by
  obtain ⟨ss, rfl, h2, _⟩ := h
  obtain ⟨a, cap, rfl⟩ := h2.len
  exact ⟨a, cap, by rw [List.length_map, List.length_map]⟩
theorem SetsAt.at {w : World} {v : Value} {l : List St} (h : SetsAt w v l) (hp : 0 < l.length) : ∃ b off cap, v = .slice (some ⟨b, off, none⟩) l.length cap ∧ b < w.heap.size ∧ ∀ i (hi : i < l.length), ∃ vd, ReadS w vd l[i].ds ∧ OneAt w b (off + i * 5) l[i] vd := by
  obtain ⟨ss, rfl, h2, h3⟩ := h
  obtain ⟨ad, cap, rfl, _, h5⟩ := h2
  rw [List.length_map] at hp
  obtain ⟨b, off, rfl, hg, hc⟩ := h5 (by rw [List.length_map]; exact hp)
  refine ⟨b, off, cap, by rw [List.length_map, List.length_map], hg, fun i hi => ?_⟩
  have hi' : i < ss.length := by rw [List.length_map] at hi; exact hi
  have e : ∀ k, k < 5 → w.cell? ⟨b, off + i * 5 + k, none⟩ = (stR ss[i])[k]? := fun k hk => by
    rw [hc i (by rw [List.length_map]; exact hi') k hk]
    simp
  refine ⟨ss[i].2, ?_, ?_⟩
  · rw [List.getElem_map]
    exact h3 _ (List.getElem_mem hi')
  · rw [List.getElem_map]
    exact ⟨e 0 (by omega), e 1 (by omega), e 2 (by omega), e 3 (by omega), e 4 (by omega), hg⟩

/-! ### The sizes of what records come to. -/
theorem fold_len : ∀ (l : List Rec) (a : List St) (n : Nat), (a.length ≤ n ∧ ∀ s ∈ a, s.ds.length ≤ n) → ((l.foldl stepM a).length ≤ n + l.length ∧ ∀ s ∈ l.foldl stepM a, s.ds.length ≤ n + l.length)
  | [], _, _, h => h
  | r :: l, a, n, h => by
    have hs : (stepM a r).length ≤ n + 1 ∧ ∀ s ∈ stepM a r, s.ds.length ≤ n + 1 := by
      unfold stepM
      split
      · constructor
        · have e := congrArg List.length (layM_keys (keyM r) r.l (lowR r) a)
          rw [List.length_map] at e
          rw [e]
          split <;> simp <;> omega
        · intro s hs
          rcases layM_mem hs with hs | rfl | ⟨y, hy, _, rfl⟩
          · have := h.2 s hs
            omega
          · simp
          · have := h.2 y hy
            show (addD y.ds (lowR r)).length ≤ n + 1
            unfold addD
            split
            · omega
            · simp
              omega
      · exact ⟨by omega, fun s hs => by have := h.2 s hs; omega⟩
    have := fold_len l (stepM a r) (n + 1) hs
    rw [List.foldl_cons, List.length_cons]
    exact ⟨by omega, fun s hs => by have := this.2 s hs; omega⟩
theorem from_len (l : List Rec) : (fromM l).length ≤ l.length ∧ ∀ s ∈ fromM l, s.ds.length ≤ l.length := by
  have := fold_len l [] 0 ⟨by simp, by simp⟩
  rw [Nat.zero_add] at this
  exact this
theorem stOk_fine {s : St} (h : stOk s = true) (hl : s.ds.length ≤ maxLen) : StFine s := by
  obtain ⟨h1, h2, h3, h4⟩ := stOk_parts.1 h
  obtain ⟨d, hd⟩ := List.exists_mem_of_ne_nil _ h1
  have hk := h3 d hd
  rw [dataOk, Bool.and_eq_true] at hk
  have h5 := (recOk_parts.1 hk.1).1
  refine ⟨?_, hl, fun d hd => ?_⟩
  · have := (Nm.okL_spec _).1 h5 |>.1
    have e : (bl s.key.n).length = s.key.n.size := bl_length _
    show s.key.n.size ≤ maxLen
    change (bl s.key.n).length ≤ 255 at this
    unfold maxLen
    omega
  · have hk := h3 d hd
    rw [dataOk, Bool.and_eq_true, beq_iff_eq] at hk
    have := lowD_len s.key.t d
    rw [hk.2] at this
    unfold maxLen
    omega
end Go.Proofs.Ytdlaepfnogmebaa
