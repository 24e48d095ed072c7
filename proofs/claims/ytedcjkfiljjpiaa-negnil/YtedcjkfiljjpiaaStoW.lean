/- A store into which something is put. No condition but lengths. A store into which something is put, that is kept. No condition but lengths. A store: Put, whatever comes in; and the law's words on items. No condition but lengths. -/
import Derived.Test.YtedcjkfiljjpiaaStoK
import Derived.Test.YtedcjkfiljjpiaaGrpR2
namespace Go.Proofs.Ytedcjkfiljjpiaa
open Go.RowKit

end Go.Proofs.Ytedcjkfiljjpiaa

namespace Go.Proofs.Ytedcjkfiljjpiaa
open Go.RowKit

theorem ReadRow.setOther {w : World} {v : Value} {c : Nat} {rows : List (List Value)} (h : ReadRow w v c rows) {x : Addr} (hx : ∀ a k cp, v = .slice (some a) k cp → a.block ≠ x.block) (u : Value) : ReadRow (w.setCell x u) v c rows := by
  obtain ⟨av, cap, rfl, hle, hp⟩ := h
  refine ⟨av, cap, rfl, hle, fun hpos => ?_⟩
  obtain ⟨g, off, rfl, hlt, hc⟩ := hp hpos
  have hg : g ≠ x.block := hx _ _ _ rfl
  refine ⟨g, off, rfl, by simpa [World.setCell] using hlt, fun i hi j hj => ?_⟩
  rw [World.cell?_of_block (w := w) (Below.heap_setCell w x u g hg)]
  exact hc i hi j hj
theorem readS_of_tv {w : World} {v : Value} {ls : List (List UInt8)} (h : ReadRow w v 1 (ls.map tv)) : ReadS w v ls := by
  obtain ⟨a, cap, rfl, hle, hc⟩ := h
  rw [List.length_map] at hle ⊢
  refine ⟨a, cap, rfl, hle, fun i hi => ?_⟩
  obtain ⟨b, off, rfl, hb, hcell⟩ := hc (by rw [List.length_map]; omega)
  refine ⟨_, rfl, ?_⟩
  have := hcell i (by rw [List.length_map]; exact hi) 0 (by decide)
  rw [Nat.mul_one, Nat.add_zero] at this
  rw [add_none, this]
  simp [tv]
theorem put_ok {s : Sto} {x : It} (h : StoOk s) (hx : ItFine x) : StoOk ⟨s.room, Sto.cut (Sto.without s.items x.set.key ++ [x]) s.room, s.changes + 1⟩ := by
  have hr := h.room
  refine ⟨h.room, ?_, ?_, ?_, ?_⟩
  · show ((Sto.cut _ s.room).length : Int) ≤ s.room
    unfold Sto.cut
    rw [List.length_drop]
    have := Lr.cutAt_val (Sto.without s.items x.set.key ++ [x]).length s.room
    omega
  · show (Sto.keysL (Sto.cut _ s.room)).Nodup
    unfold Sto.cut
    rw [Sto.keysL_drop, Sto.touch_keys]
    exact List.Sublist.nodup (List.drop_sublist _ _) (Sto.nodup_touch h.nodup _)
  · intro i hi
    have hm : i ∈ Sto.without s.items x.set.key ++ [x] := List.mem_of_mem_drop hi
    rw [List.mem_append, List.mem_singleton] at hm
    rcases hm with hm | hm
    · exact h.fine i (List.mem_filter.1 hm).1
    · rw [hm]; exact hx
  · have := h.count
    show 0 ≤ s.changes + 1
    omega
theorem till_bound (now ttl : Int) : -1 ≤ Ag.till now ttl ∧ Ag.till now ttl ≤ 1099512232576 := by
  unfold Ag.till
  split
  · rename_i h
    simp only [Bool.and_eq_true, Ag.isT, decide_eq_true_eq] at h
    omega
  · omega
theorem isR_bound {r : Int} (h : Rk.isR r = true) : 1 ≤ r ∧ r ≤ 5 := by simpa [Rk.isR] using h
end Go.Proofs.Ytedcjkfiljjpiaa

namespace Go.Proofs.Ytedcjkfiljjpiaa
open Go.RowKit

theorem stOk_ttl {x : St} (h : stOk x = true) : 0 ≤ x.ttl := by
  rw [stOk_doc] at h
  simp only [Bool.and_eq_true, decide_eq_true_eq] at h
  omega
theorem till_neg {now : Int} {x : St} (h : Ag.till now x.ttl < 0) : (Ag.isT now && stOk x) = false := by
  unfold Ag.till at h
  split at h
  · rename_i hh
    simp only [Bool.and_eq_true, Ag.isT, decide_eq_true_eq] at hh
    omega
  · rename_i hh
    cases hs : stOk x
    · simp
    · have := stOk_ttl hs
      have : decide (0 ≤ x.ttl) = true := decide_eq_true this
      rw [this] at hh
      simpa using hh
theorem till_pos {now : Int} {x : St} (h : ¬ Ag.till now x.ttl < 0) : Ag.isT now = true := by
  unfold Ag.till at h
  split at h
  · rename_i hh
    simp only [Bool.and_eq_true] at hh
    exact hh.1
  · omega

theorem it_eq (a b : It) : decide (a = b) = (decide (a.set = b.set) && decide (a.u = b.u) && decide (a.rank = b.rank)) := by
  rw [Bool.eq_iff_iff]
  simp only [Bool.and_eq_true, decide_eq_true_eq]
  constructor
  · rintro rfl; exact ⟨⟨rfl, rfl⟩, rfl⟩
  · rintro ⟨⟨h1, h2⟩, h3⟩
    cases a; cases b
    simp only at h1 h2 h3
    subst h1 h2 h3
    rfl
end Go.Proofs.Ytedcjkfiljjpiaa
