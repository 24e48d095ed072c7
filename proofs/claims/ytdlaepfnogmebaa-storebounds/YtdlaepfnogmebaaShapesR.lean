/- How a record that comes in reads. No condition. -/
import Derived.Test.YtdlaepfnogmebaaShapes
import Derived.Test.YtdlaepfnogmebaaRec
import Derived.Test.YtdlaepfnogmebaaBase
namespace Go.Proofs.Ytdlaepfnogmebaa
open Go.ChangeShapes Go.WideShapes Go.ChangeAt Go.RowKit

theorem arr5 {α : Type} {cs : Array α} (h : cs.size = 5) : ∃ c0 c1 c2 c3 c4, cs = #[c0, c1, c2, c3, c4] := by
  obtain ⟨l⟩ := cs
  match l, h with
  | [a, b, c, d, e], _ => exact ⟨a, b, c, d, e, rfl⟩
theorem open_rec_cells {H : Type} {enc : TypeId × Value → H} {w : World} {base : Nat} {spare : TypeId → Bool} {held : Bool} {fuel : Nat} {c0 c1 c2 c3 c4 : Value} {x : DataW H × List MemPlace}
    (hf : DataW.trod enc Try.prog w base spare held fuel 161 [c0, c1, c2, c3, c4] = some x) :
    ∃ r : Rec, Value.agg #[c0, c1, c2, c3, c4] = recV r ∧ r.n.size ≤ maxLen ∧ r.d.size ≤ maxLen ∧ (-9223372036854775808 ≤ r.t ∧ r.t ≤ 9223372036854775807) ∧ (-9223372036854775808 ≤ r.c ∧ r.c ≤ 9223372036854775807) ∧ (-9223372036854775808 ≤ r.l ∧ r.l ≤ 9223372036854775807) := by
  obtain ⟨xs, m, _, _, _, hl, hi⟩ := DataW.trod_struct Try.underlying161 hf
  have hc1 : Try.prog.cellsOf 9 = 1 := by kernel_rfl
  have hc2 : Try.prog.cellsOf 3 = 1 := by kernel_rfl
  have h0 := hi 0 _ rfl
  have h1 := hi 1 _ rfl
  have h2 := hi 2 _ rfl
  have h3 := hi 3 _ rfl
  have h4 := hi 4 _ rfl
  have hl' : xs.length = 5 := hl
  rw [List.getElem?_eq_getElem (by omega)] at h0 h1 h2 h3 h4
  simp [hc1, hc2] at h0 h1 h2 h3 h4
  obtain ⟨n, e0, _, w0⟩ := DataW.trod_string Try.underlying9 h0
  obtain ⟨t, e1, _, w1⟩ := DataW.trod_int Try.underlying3 h1
  obtain ⟨c, e2, _, w2⟩ := DataW.trod_int Try.underlying3 h2
  obtain ⟨l, e3, _, w3⟩ := DataW.trod_int Try.underlying3 h3
  obtain ⟨d, e4, _, w4⟩ := DataW.trod_string Try.underlying9 h4
  simp at e0 e1 e2 e3 e4
  subst e0 e1 e2 e3 e4
  exact ⟨⟨n, t, c, l, d⟩, rfl, w0, w4, bounds_i64 w1, bounds_i64 w2, bounds_i64 w3⟩
set_option maxRecDepth 100000 in
theorem open_rec {H : Type} {enc : TypeId × Value → H} {w : World} {base : Nat} {spare : TypeId → Bool} {held : Bool} {r : Reach} {b0 : Nat} {v : Value} {d : DataW H} {p : List MemPlace}
    (hv : Value.okWide Try.prog w r b0 161 v) (h : DataW.Trod enc Try.prog w base spare held 161 v d p) :
    ∃ r : Rec, v = recV r ∧ r.n.size ≤ maxLen ∧ r.d.size ≤ maxLen ∧ (-9223372036854775808 ≤ r.t ∧ r.t ≤ 9223372036854775807) ∧ (-9223372036854775808 ≤ r.c ∧ r.c ≤ 9223372036854775807) ∧ (-9223372036854775808 ≤ r.l ∧ r.l ≤ 9223372036854775807) := by
  obtain ⟨cs, rfl, hsz⟩ := okWide_struct Try.underlying161 hv
  have hC : Try.prog.cellsOf 161 = 5 := by kernel_rfl
  obtain ⟨c0, c1, c2, c3, c4, rfl⟩ := arr5 (hsz.trans hC)
  obtain ⟨fuel, hf⟩ := h
  exact open_rec_cells hf
def recL (r : Rec) : List Value := [.string r.n, .int .i64 r.t, .int .i64 r.c, .int .i64 r.l, .string r.d]
def RecFine (r : Rec) : Prop := r.n.size ≤ maxLen ∧ r.d.size ≤ maxLen ∧ (-9223372036854775808 ≤ r.t ∧ r.t ≤ 9223372036854775807) ∧ (-9223372036854775808 ≤ r.c ∧ r.c ≤ 9223372036854775807) ∧ (-9223372036854775808 ≤ r.l ∧ r.l ≤ 9223372036854775807)
end Go.Proofs.Ytdlaepfnogmebaa
