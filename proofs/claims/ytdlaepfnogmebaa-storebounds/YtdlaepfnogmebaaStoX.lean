/- StoreOld and StoreBounds, the mathematics: what is told later was told before; the last that was put of a key is what is kept of it. -/
import Derived.Test.YtdlaepfnogmebaaStoW
namespace Go.Proofs.Ytdlaepfnogmebaa
open Go.RowKit

theorem small_ds (x : St) (h : smallS x = true) : x.ds.length ≤ 1000000 := by
  unfold smallS at h
  simp only [Bool.and_eq_true, decide_eq_true_eq] at h
  omega
theorem peek_len {XG : Nat → Prop} {w : World} {p m : Nat} {s : Sto} (h : SAt XG w p m s) (n : Int) (q : Qn) : ((Sto.peek s n q).getD noIt).set.ds.length ≤ 1099511627776 := by
  unfold Sto.peek
  cases hfd : Sto.find s.items q with
  | none => simp [Option.filter, noIt, noSt]
  | some j =>
    have hj := (h.ok.fine j (Sto.find_key hfd).1).2.2.1
    cases hl : Ag.live n j.u
    · simp [Option.filter, hl, noIt, noSt]
    · simp only [Option.filter, hl, if_true, Option.getD_some]
      omega
/-- What is told of an item, as a value. -/
theorem TellOk.see {w : World} {B : Nat} {oi : Option It} {vi : Value} (h : TellOk w B oi vi) {p m : Nat} (hp : p < B) (hm : m < B) : ∃ x a n c, vi = itV x (.slice a n c) ∧ ReadS w (.slice a n c) x.set.ds ∧ Apart (.slice a n c) p m ∧ x = oi.getD noIt := by
  cases oi with
  | none => exact ⟨noIt, none, 0, 0, h, ReadS.none, Apart.none _ _ _ _, rfl⟩
  | some i =>
    obtain ⟨vd, rfl, ho⟩ := h
    obtain ⟨a, c, rfl⟩ := ho.form
    exact ⟨i, _, _, _, rfl, readS_of_tv ho.read, ho.apart hp hm, rfl⟩
end Go.Proofs.Ytdlaepfnogmebaa

namespace Go.Proofs.Ytdlaepfnogmebaa.Bo
open Go.RowKit

theorem peek_some {s : Sto} {n : Int} {q : Qn} {i : It} (h : Sto.peek s n q = some i) : Sto.find s.items q = some i ∧ Ag.live n i.u = true := by
  unfold Sto.peek at h
  exact Option.filter_eq_some_iff.1 h
theorem peek_of {s : Sto} {n : Int} {q : Qn} {i : It} (h : Sto.find s.items q = some i) (hl : Ag.live n i.u = true) : Sto.peek s n q = some i := by
  unfold Sto.peek
  exact Option.filter_eq_some_iff.2 ⟨h, hl⟩
theorem live_lt {n u : Int} (h : Ag.live n u = true) : n < u := by
  unfold Ag.live at h
  simp only [Bool.and_eq_true, decide_eq_true_eq] at h
  exact h.2
/-- What is told later was told before. -/
theorem peek_old {s : Sto} {now more : Int} {q : Qn} {i : It} (h0 : 0 ≤ now) (h1 : now ≤ 549755813888) (h2 : 0 ≤ more) (h : Sto.peek s (now + more) q = some i) : Sto.peek s now q = some i ∧ now + more < i.u := by
  obtain ⟨h3, h4⟩ := peek_some h
  have h5 := live_lt h4
  refine ⟨peek_of h3 ?_, h5⟩
  unfold Ag.live Ag.isT
  simp only [Bool.and_eq_true, decide_eq_true_eq]
  omega
/-- The last one of a key. -/
def nw (L : List St) (q : Qn) : St := L.foldl (fun o s => if s.key = q then s else o) noSt
theorem nw_snoc (L : List St) (x : St) (q : Qn) : nw (L ++ [x]) q = if x.key = q then x else nw L q := by
  unfold nw
  rw [List.foldl_append]
  rfl
def Inv (s : Sto) (L : List St) : Prop := ∀ i ∈ s.items, nw L i.set.key = i.set
theorem inv_nil (room : Int) : Inv ⟨room, [], 0⟩ [] := fun i h => by cases h
theorem inv_get {s : Sto} {L : List St} (h : Inv s L) (now : Int) (q : Qn) : Inv (Sto.get s now q) L := by
  unfold Sto.get
  cases hp : Sto.peek s now q with
  | none => exact h
  | some j =>
    intro i hi
    simp only [List.mem_append, List.mem_singleton] at hi
    rcases hi with hi | rfl
    · exact h i (List.mem_filter.1 hi).1
    · exact h _ (Sto.find_key (peek_some hp).1).1
theorem inv_put {s : Sto} {L : List St} (h : Inv s L) {now : Int} {x : St} {r : Int} (h0 : Sto.putE s now x r = 0) : Inv (Sto.put s now x r) (L ++ [x]) := by
  unfold Sto.put
  rw [if_pos h0]
  intro i hi
  rw [nw_snoc]
  have hi' := List.mem_of_mem_drop hi
  simp only [List.mem_append, List.mem_singleton] at hi'
  rcases hi' with hi' | rfl
  · unfold Sto.without at hi'
    rw [List.mem_filter] at hi'
    have hne : ¬ i.set.key = x.key := by simpa using hi'.2
    rw [if_neg (fun e => hne e.symm)]
    exact h i hi'.1
  · simp
theorem inv_no {s : Sto} {L : List St} (h : Inv s L) {now : Int} {x : St} {r : Int} (h0 : ¬ Sto.putE s now x r = 0) : Inv (Sto.put s now x r) L := by
  unfold Sto.put
  rw [if_neg h0]
  exact h
/-- What is told is the last that was put. -/
theorem peek_nw {s : Sto} {L : List St} (h : Inv s L) {now : Int} {q : Qn} {i : It} (hp : Sto.peek s now q = some i) : now < i.u ∧ i.set.key = q ∧ nw L q = i.set := by
  obtain ⟨h1, h2⟩ := peek_some hp
  obtain ⟨h3, h4⟩ := Sto.find_key h1
  refine ⟨live_lt h2, h4, ?_⟩
  rw [← h4]
  exact h i h3
theorem putE_live {s : Sto} {now : Int} {x : St} {r : Int} (h : Sto.putE s now x r = 0) : Ag.live now (Ag.till now x.ttl) = true := by
  unfold Sto.putE at h
  split at h
  · split at h
    · assumption
    · omega
  · omega
/-- What was put is told. -/
theorem peek_put {s : Sto} (hs : StoOk s) {now : Int} {x : St} {r : Int} (h : Sto.putE s now x r = 0) : Sto.peek (Sto.put s now x r) now x.key = some ⟨x, Ag.till now x.ttl, r⟩ := by
  refine peek_of ?_ (putE_live h)
  unfold Sto.put
  rw [if_pos h]
  have hr := hs.room
  have hnd : (Sto.keysL (Sto.without s.items x.key ++ [⟨x, Ag.till now x.ttl, r⟩])).Nodup := by
    have := Sto.touch_keys s.items ⟨x, Ag.till now x.ttl, r⟩
    rw [this]
    exact Sto.nodup_touch hs.nodup _
  unfold Sto.cut
  rw [Sto.find_drop hnd, if_neg]
  · rw [Sto.find_append, Sto.find_without, if_pos rfl]
    simp [Sto.find]
  · intro hm
    have hle : Lr.cutAt (Sto.without s.items x.key ++ [(⟨x, Ag.till now x.ttl, r⟩ : It)]).length s.room ≤ (Sto.without s.items x.key).length := by
      unfold Lr.cutAt
      simp only [List.length_append, List.length_singleton]
      omega
    rw [List.take_append_of_le_length hle, Sto.keysL_take] at hm
    have := List.mem_of_mem_take hm
    rw [Sto.without_keys] at this
    unfold Lr.drop at this
    rw [List.mem_filter] at this
    simp at this
theorem changes_put (s : Sto) (now : Int) (x : St) (r : Int) : (Sto.put s now x r).changes ≤ s.changes + 1 ∧ (Sto.put s now x r).room = s.room := by
  unfold Sto.put
  split
  · exact ⟨by simp, rfl⟩
  · exact ⟨by omega, rfl⟩
theorem changes_get (s : Sto) (now : Int) (q : Qn) : (Sto.get s now q).changes = s.changes ∧ (Sto.get s now q).room = s.room := by
  unfold Sto.get
  split <;> exact ⟨rfl, rfl⟩
end Go.Proofs.Ytdlaepfnogmebaa.Bo
