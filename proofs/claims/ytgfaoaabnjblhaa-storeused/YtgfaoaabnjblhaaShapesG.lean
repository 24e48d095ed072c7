/- How a set that comes in reads. No condition. -/
import Derived.Test.YtgfaoaabnjblhaaShapesM
import Derived.Test.YtgfaoaabnjblhaaGrp3
namespace Go.Proofs.Ytgfaoaabnjblhaa
open Go.ChangeShapes Go.WideShapes Go.ChangeAt Go.RowKit

theorem readS_row {w : World} {v : Value} {ls : List (List UInt8)} (h : ReadRow w v 1 (ls.map fun x => [sv x])) : ReadS w v ls := by
  obtain ⟨a, cap, rfl, hle, hp⟩ := h
  rw [List.length_map] at hle ⊢
  refine ⟨a, cap, rfl, hle, fun i hi => ?_⟩
  obtain ⟨b, off, rfl, _, hc⟩ := hp (by rw [List.length_map]; omega)
  refine ⟨_, rfl, ?_⟩
  have h1 := hc i (by rw [List.length_map]; exact hi) 0 (by decide)
  rw [add_none]
  rw [List.getElem_map] at h1
  simpa using h1
/-- All that a set which comes in keeps to. -/
def StIn (s : St) : Prop := QnFine s.key ∧ (-9223372036854775808 ≤ s.ttl ∧ s.ttl ≤ 9223372036854775807)
set_option maxRecDepth 100000 in
theorem open_st {H : Type} {enc : TypeId × Value → H} {w : World} {base : Nat} {spare : TypeId → Bool} {held : Bool} {r : Reach} {b0 : Nat} {v : Value} {d : DataW H} {p : List MemPlace}
    (hv : Value.okWide Try.prog w r b0 35 v) (h : DataW.Trod enc Try.prog w base spare held 35 v d p) :
    ∃ s : St, StAt w v s ∧ StFine s ∧ StIn s := by
  obtain ⟨cs, rfl, hsz⟩ := okWide_struct Try.underlying35 hv
  have hC : Try.prog.cellsOf 35 = 5 := by kernel_rfl
  obtain ⟨c0, c1, c2, c3, c4, rfl⟩ := arr5 (hsz.trans hC)
  obtain ⟨fuel, hf⟩ := h
  obtain ⟨xs, m, _, hx, _, hl, hi⟩ := DataW.trod_struct Try.underlying35 hf
  have hc1 : Try.prog.cellsOf 32 = 3 := by kernel_rfl
  have hc2 : Try.prog.cellsOf 3 = 1 := by kernel_rfl
  have hc3 : Try.prog.cellsOf 33 = 1 := by kernel_rfl
  have h0 := hi 0 _ rfl
  have h1 := hi 1 _ rfl
  have h2 := hi 2 _ rfl
  have hl' : xs.length = 3 := hl
  rw [List.getElem?_eq_getElem (by omega)] at h0 h1 h2
  simp [hc1, hc2, hc3, Value.cells] at h0 h1 h2
  obtain ⟨q, eq, fq⟩ := open_qn_cells h0
  obtain ⟨ds, r3, f3, l3, _⟩ := open_row_cell (fun x : List UInt8 => [sv x]) (fun x => x.length ≤ maxLen) 1 Try.underlying33 (by kernel_rfl) (by decide) (fun x => rfl) (fun n cs y hl ht => by
    match cs, hl with
    | [c0], _ =>
      obtain ⟨s, e0, _, w0⟩ := DataW.trod_string Try.underlying9 ht
      simp at e0
      subst e0
      exact ⟨s.data.toList, by simp [sv], by simpa using w0⟩) h1
  obtain ⟨t, e2, _, w2⟩ := DataW.trod_int Try.underlying3 h2
  simp at e2
  subst e2
  simp only [qnL, List.cons.injEq, and_true] at eq
  obtain ⟨rfl, rfl, rfl⟩ := eq
  exact ⟨⟨q, ds, t⟩, ⟨c3, rfl, readS_row r3⟩, ⟨fq.1, l3, f3⟩, fq, bounds_i64 w2⟩
end Go.Proofs.Ytgfaoaabnjblhaa
