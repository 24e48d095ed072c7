/- Package group's small functions: one, Key; the document's Key. No condition but lengths. -/
import Derived.Test.YtgfaoaabnjblhaaGrp
import Derived.Test.YtgfaoaabnjblhaaMsgW7
import Derived.Deep.RegionHeld3
import Derived.Deep.RegionWith
import Derived.Deep.DeepCutAuto
namespace Go.Proofs.Ytgfaoaabnjblhaa
open Go.RowKit

theorem one_any (q : Qn) (ttl : Int) (d : ByteArray) (w : World) :
    Calls Try.prog 61 #[qnV q, .int .i64 ttl, .string d] w fun e w' => e = .returned (recV ⟨q.n, q.t, q.c, ttl, d⟩) ∧ Keeps w w' := by
  obtain ⟨n, t, c⟩ := q
  unfold qnV recV
  have K := hide (((Keeps.refl w).alloc (.cells #[.string n, .int .i64 t, .int .i64 c] 32)).alloc (.cells #[.string n, .int .i64 t, .int .i64 c, .int .i64 ttl, .string d] 95))
  go_enter Try.func61, Try.ntmps61
  go_wp2
  exact bodyPost_ret (v := .agg #[.string n, .int .i64 t, .int .i64 c, .int .i64 ttl, .string d]) (by simp [results, Try.results61, go_sem]) rfl ⟨rfl, K.out⟩

theorem size_allocG (w : World) (o : Obj) : (w.alloc o).heap.size = w.heap.size + 1 := by simp
theorem Keeps.three {w W : World} (K : Keeps w W) {G : Nat} (hle : w.heap.size ≤ G) (a b c : Value) :
    Keeps w (((W.setCell ⟨G, 0, none⟩ a).setCell ⟨G, 1, none⟩ b).setCell ⟨G, 2, none⟩ c) :=
  Below.setCell (Below.setCell (Below.setCell K hle _) hle _) hle _

theorem Blk.five_cells {w : World} {G : Nat} {p q r s t : Value} {ty : TypeId} (h : Blk w G #[p, q, r, s, t] ty) :
    w.cell? ⟨G, 0, none⟩ = some p ∧ w.cell? ⟨G, 1, none⟩ = some q ∧ w.cell? ⟨G, 2, none⟩ = some r ∧ w.cell? ⟨G, 3, none⟩ = some s ∧ w.cell? ⟨G, 4, none⟩ = some t ∧ G < w.heap.size :=
  ⟨h.cell 0, h.cell 1, h.cell 2, h.cell 3, h.cell 4, h.lt⟩

end Go.Proofs.Ytgfaoaabnjblhaa
