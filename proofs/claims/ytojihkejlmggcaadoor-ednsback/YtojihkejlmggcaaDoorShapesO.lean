/- How what an OPT record says reads, as it comes in. No condition. -/
import Derived.Test.YtojihkejlmggcaaDoorShapesR
import Derived.Test.YtojihkejlmggcaaDoorEdns
namespace Go.Proofs.YtojihkejlmggcaaDoor
open Go.ChangeShapes Go.WideShapes Go.ChangeAt Go.RowKit

set_option maxRecDepth 100000 in
theorem open_op {H : Type} {enc : TypeId × Value → H} {w : World} {base : Nat} {spare : TypeId → Bool} {held : Bool} {r : Reach} {b0 : Nat} {v : Value} {d : DataW H} {p : List MemPlace}
    (hv : Value.okWide Tryd.prog w r b0 33 v) (h : DataW.Trod enc Tryd.prog w base spare held 33 v d p) :
    ∃ o : Op, v = opV o := by
  obtain ⟨cs, rfl, hsz⟩ := okWide_struct Tryd.underlying33 hv
  have hC : Tryd.prog.cellsOf 33 = 5 := by kernel_rfl
  obtain ⟨c0, c1, c2, c3, c4, rfl⟩ := arr5 (hsz.trans hC)
  obtain ⟨fuel, hf⟩ := h
  obtain ⟨xs, m, _, _, _, hl, hi⟩ := DataW.trod_struct Tryd.underlying33 hf
  have hc1 : Tryd.prog.cellsOf 4 = 1 := by kernel_rfl
  have hc2 : Tryd.prog.cellsOf 3 = 1 := by kernel_rfl
  have h0 := hi 0 _ rfl
  have h1 := hi 1 _ rfl
  have h2 := hi 2 _ rfl
  have h3 := hi 3 _ rfl
  have h4 := hi 4 _ rfl
  have hl' : xs.length = 5 := hl
  rw [List.getElem?_eq_getElem (by omega)] at h0 h1 h2 h3 h4
  simp [hc1, hc2, Value.cells] at h0 h1 h2 h3 h4
  obtain ⟨a, e0, _⟩ := DataW.trod_bool Tryd.underlying4 h0
  obtain ⟨s, e1, _, _⟩ := DataW.trod_int Tryd.underlying3 h1
  obtain ⟨x, e2, _, _⟩ := DataW.trod_int Tryd.underlying3 h2
  obtain ⟨u, e3, _, _⟩ := DataW.trod_int Tryd.underlying3 h3
  obtain ⟨b, e4, _⟩ := DataW.trod_bool Tryd.underlying4 h4
  simp at e0 e1 e2 e3 e4
  subst e0 e1 e2 e3 e4
  exact ⟨⟨a, s, x, u, b⟩, rfl⟩
end Go.Proofs.YtojihkejlmggcaaDoor
