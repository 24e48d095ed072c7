/- How a slice of numbers that comes in reads. No condition. -/
import Derived.Test.YtafkpdjcfokgbaaShapes
import Derived.Test.YtafkpdjcfokgbaaLruR
namespace Go.Proofs.Ytafkpdjcfokgbaa
open Go.ChangeShapes Go.WideShapes Go.ChangeAt Go.RowKit

/-- What the walk is told of the slice of numbers that comes in. -/
def IsInts (w : World) (v : Value) (l : List Int) : Prop := ReadRow w v 1 (l.map iv) ∧ (∀ x ∈ l, kin_i x) ∧ l.length ≤ maxLen
set_option maxRecDepth 100000 in
theorem open_ints {H : Type} {enc : TypeId × Value → H} {w : World} {base : Nat} {spare : TypeId → Bool} {held : Bool} {r : Reach} {b0 : Nat} {v : Value} {d : DataW H} {p : List MemPlace}
    (hv : Value.okWide Try.prog w r b0 22 v) (h : DataW.Trod enc Try.prog w base spare held 22 v d p) : ∃ l : List Int, IsInts w v l := by
  refine open_row iv kin_i 1 Try.underlying22 (by kernel_rfl) (by decide) (fun x => rfl) ?_ hv h
  intro n cs y hl ht
  match cs, hl with
  | [c0], _ =>
    obtain ⟨x, e, _, w1⟩ := DataW.trod_int Try.underlying3 ht
    simp at e
    subst e
    exact ⟨x, rfl, bounds_i64 w1⟩
end Go.Proofs.Ytafkpdjcfokgbaa
