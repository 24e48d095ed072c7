/- NegOld, NegDrops, NegCovers: the mathematics. -/
import Derived.Test.YtedcjkfiljjpiaaNgM
namespace Go.Proofs.Ytedcjkfiljjpiaa.Ng
open Go.RowKit

/-- Who stands for a whole name stands so by its type. -/
def Inv (s : Ngs) : Prop := ∀ i ∈ s.items, i.nx = decide (i.key.t = 0)
theorem inv_nil (room : Int) : Inv ⟨room, [], 0⟩ := fun i h => by cases h
theorem putE_good {now : Int} {q : Qn} {x : St} (h : putE now q x = 0) : (Ag.isT now = true ∧ minOk x = true ∧ goodQ q = true) ∧ Ag.live now (Ag.till now (minN x)) = true := by
  unfold putE at h
  split at h
  · rename_i h1
    simp only [Bool.and_eq_true] at h1
    split at h
    · rename_i h2
      exact ⟨⟨h1.1.1, h1.1.2, h1.2⟩, h2⟩
    · omega
  · omega
theorem good_t {q : Qn} (h : goodQ q = true) : ¬ q.t = 0 := by
  unfold goodQ at h
  simp only [Bool.and_eq_true, decide_eq_true_eq] at h
  exact h.2
theorem inv_put {s : Ngs} (h : Inv s) (now : Int) (q : Qn) (nx : Bool) (x : St) : Inv (put s now q nx x) := by
  unfold put
  split
  · rename_i h0
    intro i hi
    have hi' := List.mem_of_mem_drop hi
    rw [List.mem_append, List.mem_singleton] at hi'
    rcases hi' with hi' | rfl
    · exact h i (List.mem_filter.1 hi').1
    · have ht := good_t (putE_good h0).1.2.2
      unfold itN kq
      cases nx
      · simp [ht]
      · simp
  · exact h
theorem changes_put (s : Ngs) (now : Int) (q : Qn) (nx : Bool) (x : St) : (put s now q nx x).changes ≤ s.changes + 1 ∧ (put s now q nx x).room = s.room := by
  unfold put
  split
  · exact ⟨by simp, rfl⟩
  · exact ⟨by omega, rfl⟩
theorem live_some {s : Ngs} {n : Int} {q : Qn} {i : Ni} (h : liveN s n q = some i) : find s.items q = some i ∧ Ag.live n i.u = true := by
  unfold liveN at h
  exact Option.filter_eq_some_iff.1 h
theorem live_of {s : Ngs} {n : Int} {q : Qn} {i : Ni} (h : find s.items q = some i) (hl : Ag.live n i.u = true) : liveN s n q = some i := by
  unfold liveN
  exact Option.filter_eq_some_iff.2 ⟨h, hl⟩
theorem agl_lt {n u : Int} (h : Ag.live n u = true) : n < u := by
  unfold Ag.live at h
  simp only [Bool.and_eq_true, decide_eq_true_eq] at h
  exact h.2
theorem agl_of {n u : Int} (h0 : 0 ≤ n) (h1 : n ≤ 1099511627776) (h : n < u) : Ag.live n u = true := by
  unfold Ag.live Ag.isT
  simp only [Bool.and_eq_true, decide_eq_true_eq]
  exact ⟨⟨h0, h1⟩, h⟩
theorem live_old {s : Ngs} {now : Int} {q : Qn} {i : Ni} (h0 : 0 ≤ now) (h1 : now ≤ 549755813888) (h : liveN s (now + 1) q = some i) : liveN s now q = some i ∧ now + 1 < i.u := by
  obtain ⟨h2, h3⟩ := live_some h
  have h4 := agl_lt h3
  exact ⟨live_of h2 (agl_of h0 (by omega) (by omega)), h4⟩
theorem live_u {s : Ngs} {now : Int} {q : Qn} {i : Ni} (h : liveN s now q = some i) : now < i.u := agl_lt (live_some h).2
/-- Looked for at two times. -/
theorem old_two {s : Ngs} (hI : Inv s) (q : Qn) {now : Int} (h0 : 0 ≤ now) (h1 : now ≤ 549755813888) :
    (findN s (now + 1) q = none ∧ (findN s now q = none ∨ ∃ a, findN s now q = some a ∧ now < a.u)) ∨
    ∃ a b, findN s now q = some a ∧ findN s (now + 1) q = some b ∧ now < a.u ∧ now + 1 < b.u ∧ (a.key = b.key ∨ (a.nx = true ∧ b.nx = false ∧ a.u = now + 1)) := by
  unfold findN
  cases h2 : liveN s (now + 1) ⟨q.n, 0, q.c⟩ with
  | some b =>
    obtain ⟨h3, h4⟩ := live_old h0 h1 h2
    rw [h3]
    exact .inr ⟨b, b, rfl, rfl, by omega, h4, .inl rfl⟩
  | none =>
    cases h5 : liveN s (now + 1) q with
    | some b =>
      obtain ⟨h3, h4⟩ := live_old h0 h1 h5
      cases h6 : liveN s now ⟨q.n, 0, q.c⟩ with
      | some a =>
        refine .inr ⟨a, b, rfl, rfl, live_u h6, h4, .inr ⟨?_, ?_, ?_⟩⟩
        · obtain ⟨h7, _⟩ := live_some h6
          obtain ⟨h8, h9⟩ := find_key h7
          rw [hI a h8, h9]; simp
        · obtain ⟨h7, _⟩ := live_some h5
          obtain ⟨h8, h9⟩ := find_key h7
          rw [hI b h8, h9]
          have : ¬ q.t = 0 := by
            intro e
            have : (⟨q.n, 0, q.c⟩ : Qn) = q := by cases q; simp only at e; subst e; rfl
            rw [this, h5] at h2
            cases h2
          simp [this]
        · obtain ⟨h7, _⟩ := live_some h6
          have h8 := live_u h6
          have h9 : ¬ now + 1 < a.u := fun h => by
            rw [live_of h7 (agl_of (by omega) (by omega) h)] at h2
            cases h2
          omega
      | none =>
        rw [h3]
        exact .inr ⟨b, b, rfl, rfl, by omega, h4, .inl rfl⟩
    | none =>
      refine .inl ⟨rfl, ?_⟩
      cases h6 : liveN s now ⟨q.n, 0, q.c⟩ with
      | some a => exact .inr ⟨a, rfl, live_u h6⟩
      | none =>
        cases h7 : liveN s now q with
        | some a => exact .inr ⟨a, rfl, live_u h7⟩
        | none => exact .inl rfl
/-- What is found of a name that was dropped, and of others. -/
theorem find_dropped (s : Ngs) (name : ByteArray) (now : Int) (q : Qn) : findN (drop s name) now q = if q.n = name then none else findN s now q := by
  unfold findN liveN drop
  simp only [find_dropL]
  by_cases h : q.n = name
  · simp [h]
  · simp [h]
theorem drop_count (s : Ngs) (name : ByteArray) : (keys (drop s name)).length + gone s name = (keys s).length := by
  have h1 : (dropL s.items name).length ≤ s.items.length := List.length_filter_le _ _
  show (keysL (dropL s.items name)).length + (s.items.length - (dropL s.items name).length) = (keysL s.items).length
  rw [keysL_len, keysL_len]
  omega
theorem kq_n (q : Qn) (nx : Bool) : (kq q nx).n = q.n ∧ (kq q nx).c = q.c := by unfold kq; cases nx <;> exact ⟨rfl, rfl⟩
/-- What was put is there. -/
theorem find_put {s : Ngs} (hs : NgOk s) {now : Int} {q : Qn} {nx : Bool} {x : St} (h : putE now q x = 0) : find (put s now q nx x).items (kq q nx) = some (itN now q nx x) := by
  unfold put
  rw [if_pos h]
  have hr := hs.room
  have hnd : (keysL (without s.items (kq q nx) ++ [itN now q nx x])).Nodup := by
    have := touch_keys s.items (itN now q nx x)
    rw [show (itN now q nx x).key = kq q nx from rfl] at this
    rw [this]
    exact nodup_touch hs.nodup _
  unfold cut
  rw [find_drop hnd, if_neg]
  · rw [find_append, find_without, if_pos rfl]
    simp [find, itN]
  · intro hm
    have hle : Lr.cutAt (without s.items (kq q nx) ++ [itN now q nx x]).length s.room ≤ (without s.items (kq q nx)).length := by
      unfold Lr.cutAt
      simp only [List.length_append, List.length_singleton]
      omega
    rw [List.take_append_of_le_length hle, keysL_take] at hm
    have := List.mem_of_mem_take hm
    rw [without_keys] at this
    unfold Lr.drop at this
    rw [List.mem_filter] at this
    simp at this
/-- Behind what was put: it is found; a whole name is found of each type. -/
theorem covers {s : Ngs} (hs : NgOk s) (hI : Inv s) {now : Int} {q : Qn} {nx : Bool} {x : St} (h : putE now q x = 0) :
    minOk x = true ∧ 1 ≤ minN x ∧ (∃ y, findN (put s now q nx x) now q = some y ∧ (y.key = kq q nx → y.u ≤ now + minN x)) ∧ (nx = true → ∀ kind : Int, ∃ y, findN (put s now q nx x) now ⟨q.n, kind, q.c⟩ = some y ∧ y.nx = true ∧ y.key.t = 0) := by
  obtain ⟨⟨h1, h2, h3⟩, h4⟩ := putE_good h
  have h5 := agl_lt h4
  have hmn := minN_in x
  have htill : Ag.till now (minN x) = now + min (minN x) 604800 := by
    unfold Ag.till
    rw [h1, decide_eq_true hmn.1]
    rfl
  have hf := find_put hs h (nx := nx)
  have hlv : liveN (put s now q nx x) now (kq q nx) = some (itN now q nx x) := live_of hf h4
  have hI2 := inv_put hI now q nx x
  have hone : 1 ≤ minN x := by rw [htill] at h5; omega
  refine ⟨h2, hone, ?_, fun hnx kind => ?_⟩
  · unfold findN
    cases h6 : liveN (put s now q nx x) now ⟨q.n, 0, q.c⟩ with
    | some y =>
      refine ⟨y, rfl, fun hk => ?_⟩
      obtain ⟨h7, _⟩ := live_some h6
      have h8 := (find_key h7).2
      rw [← h8, hk, hf] at h7
      simp only [Option.some.injEq] at h7
      rw [← h7]
      show Ag.till now (minN x) ≤ _
      rw [htill]; omega
    | none =>
      cases nx
      · rw [show kq q false = q from rfl] at hlv
        rw [hlv]
        refine ⟨_, rfl, fun _ => ?_⟩
        show Ag.till now (minN x) ≤ _
        rw [htill]; omega
      · rw [show kq q true = ⟨q.n, 0, q.c⟩ from rfl, h6] at hlv
        cases hlv
  · subst hnx
    rw [show kq q true = ⟨q.n, 0, q.c⟩ from rfl] at hlv
    refine ⟨itN now q true x, ?_, rfl, rfl⟩
    unfold findN
    simp only
    rw [hlv]
    rfl
end Go.Proofs.Ytedcjkfiljjpiaa.Ng
