/- How a thing to be done, and a slice of them, that come in read. No condition. -/
import Derived.Test.YtdlaepfnogmebaaShapesG
namespace Go.Proofs.Ytdlaepfnogmebaa
open Go.ChangeShapes Go.WideShapes Go.ChangeAt Go.RowKit

/-- What is to be done. -/
structure Op14 where
  d : Int
  now : Int
  set : St
  rank : Int
def op14V (o : Op14) (vd : Value) : Value := .agg #[.int .i64 o.d, .int .i64 o.now, .string o.set.key.n, .int .i64 o.set.key.t, .int .i64 o.set.key.c, vd, .int .i64 o.set.ttl, .int .i64 o.rank]
def op14L (z : Op14 × Value) : List Value := [.int .i64 z.1.d, .int .i64 z.1.now, .string z.1.set.key.n, .int .i64 z.1.set.key.t, .int .i64 z.1.set.key.c, z.2, .int .i64 z.1.set.ttl, .int .i64 z.1.rank]
def I64 (x : Int) : Prop := -9223372036854775808 ≤ x ∧ x ≤ 9223372036854775807
def Op14Fine (o : Op14) : Prop := StFine o.set ∧ StIn o.set ∧ I64 o.d ∧ I64 o.now ∧ I64 o.rank
def Op14At (w : World) (v : Value) (o : Op14) : Prop := ∃ vd, v = op14V o vd ∧ ReadS w vd o.set.ds

theorem arr8 {α : Type} {cs : Array α} (h : cs.size = 8) : ∃ c0 c1 c2 c3 c4 c5 c6 c7, cs = #[c0, c1, c2, c3, c4, c5, c6, c7] := by
  obtain ⟨l⟩ := cs
  match l, h with
  | [a, b, c, d, e, f, g, i], _ => exact ⟨a, b, c, d, e, f, g, i, rfl⟩
set_option maxRecDepth 100000 in
theorem open_st_cells {H : Type} {enc : TypeId × Value → H} {w : World} {base : Nat} {spare : TypeId → Bool} {held : Bool} {fuel : Nat} {c0 c1 c2 c3 c4 : Value} {x : DataW H × List MemPlace}
    (hf : DataW.trod enc Try.prog w base spare held fuel 35 [c0, c1, c2, c3, c4] = some x) :
    ∃ (s : St) (vd : Value), c0 = .string s.key.n ∧ c1 = .int .i64 s.key.t ∧ c2 = .int .i64 s.key.c ∧ c3 = vd ∧ c4 = .int .i64 s.ttl ∧ ReadS w vd s.ds ∧ StFine s ∧ StIn s := by
  obtain ⟨xs, m, _, hx, _, hl, hi⟩ := DataW.trod_struct Try.underlying35 hf
  have hc1 : Try.prog.cellsOf 32 = 3 := by kernel_rfl
  have hc2 : Try.prog.cellsOf 3 = 1 := by kernel_rfl
  have hc3 : Try.prog.cellsOf 33 = 1 := by kernel_rfl
  have h0 := hi 0 _ rfl
  have h1 := hi 1 _ rfl
  have h2 := hi 2 _ rfl
  have hl' : xs.length = 3 := hl
  rw [List.getElem?_eq_getElem (by omega)] at h0 h1 h2
  simp [hc1, hc2, hc3] at h0 h1 h2
  obtain ⟨q, eq, fq⟩ := open_qn_cells h0
  obtain ⟨ds, r3, f3, l3, _⟩ := open_row_cell (fun x : List UInt8 => [sv x]) (fun x => x.length ≤ maxLen) 1 Try.underlying33 (by kernel_rfl) (by decide) (fun x => rfl) (fun n cs y hl ht => by
    match cs, hl with
    | [c0], _ =>
      obtain ⟨s, e0, _, w0⟩ := DataW.trod_string Try.underlying9 ht
      simp at e0
      subst e0
      exact ⟨s.data.toList, by simp [sv], by simpa using w0⟩) h1
  obtain ⟨t, e2, _, w2⟩ := DataW.trod_int Try.underlying3 h2
  simp at e2
  subst e2
  simp only [qnL, List.cons.injEq, and_true] at eq
  obtain ⟨rfl, rfl, rfl⟩ := eq
  exact ⟨⟨q, ds, t⟩, c3, rfl, rfl, rfl, rfl, rfl, readS_row r3, ⟨fq.1, l3, f3⟩, fq, bounds_i64 w2⟩
set_option maxRecDepth 100000 in
theorem open_op14_cells {H : Type} {enc : TypeId × Value → H} {w : World} {base : Nat} {spare : TypeId → Bool} {held : Bool} {fuel : Nat} {c0 c1 c2 c3 c4 c5 c6 c7 : Value} {x : DataW H × List MemPlace}
    (hf : DataW.trod enc Try.prog w base spare held fuel 37 [c0, c1, c2, c3, c4, c5, c6, c7] = some x) :
    ∃ z : Op14 × Value, [c0, c1, c2, c3, c4, c5, c6, c7] = op14L z ∧ Op14Fine z.1 ∧ ReadS w z.2 z.1.set.ds := by
  obtain ⟨xs, m, _, _, _, hl, hi⟩ := DataW.trod_struct Try.underlying37 hf
  have hc1 : Try.prog.cellsOf 35 = 5 := by kernel_rfl
  have hc2 : Try.prog.cellsOf 3 = 1 := by kernel_rfl
  have h0 := hi 0 _ rfl
  have h1 := hi 1 _ rfl
  have h2 := hi 2 _ rfl
  have h3 := hi 3 _ rfl
  have hl' : xs.length = 4 := hl
  rw [List.getElem?_eq_getElem (by omega)] at h0 h1 h2 h3
  simp [hc1, hc2] at h0 h1 h2 h3
  obtain ⟨a, e0, _, w0⟩ := DataW.trod_int Try.underlying3 h0
  obtain ⟨b, e1, _, w1⟩ := DataW.trod_int Try.underlying3 h1
  obtain ⟨s, vd, rfl, rfl, rfl, rfl, rfl, hr, hfs, hin⟩ := open_st_cells h2
  obtain ⟨r, e3, _, w3⟩ := DataW.trod_int Try.underlying3 h3
  simp at e0 e1 e3
  subst e0 e1 e3
  exact ⟨(⟨a, b, s, r⟩, c5), rfl, ⟨hfs, hin, bounds_i64 w0, bounds_i64 w1, bounds_i64 w3⟩, hr⟩
set_option maxRecDepth 100000 in
theorem open_op14 {H : Type} {enc : TypeId × Value → H} {w : World} {base : Nat} {spare : TypeId → Bool} {held : Bool} {r : Reach} {b0 : Nat} {v : Value} {d : DataW H} {p : List MemPlace}
    (hv : Value.okWide Try.prog w r b0 37 v) (h : DataW.Trod enc Try.prog w base spare held 37 v d p) :
    ∃ o : Op14, Op14At w v o ∧ Op14Fine o := by
  obtain ⟨cs, rfl, hsz⟩ := okWide_struct Try.underlying37 hv
  have hC : Try.prog.cellsOf 37 = 8 := by kernel_rfl
  obtain ⟨c0, c1, c2, c3, c4, c5, c6, c7, rfl⟩ := arr8 (hsz.trans hC)
  obtain ⟨fuel, hf⟩ := h
  obtain ⟨z, e, h1, h2⟩ := open_op14_cells hf
  refine ⟨z.1, ⟨z.2, ?_, h2⟩, h1⟩
  simp only [op14L, List.cons.injEq, and_true] at e
  obtain ⟨rfl, rfl, rfl, rfl, rfl, rfl, rfl, rfl⟩ := e
  rfl
/-- What the walk is told of a slice of things to be done. -/
def Ops14At (w : World) (v : Value) (zs : List (Op14 × Value)) : Prop := ReadRow w v 8 (zs.map op14L) ∧ (∀ z ∈ zs, Op14Fine z.1 ∧ ReadS w z.2 z.1.set.ds) ∧ zs.length ≤ maxLen
set_option maxRecDepth 100000 in
theorem open_ops14 {H : Type} {enc : TypeId × Value → H} {w : World} {base : Nat} {spare : TypeId → Bool} {held : Bool} {r : Reach} {b0 : Nat} {v : Value} {d : DataW H} {p : List MemPlace}
    (hv : Value.okWide Try.prog w r b0 22 v) (h : DataW.Trod enc Try.prog w base spare held 22 v d p) : ∃ zs, Ops14At w v zs := by
  refine open_row op14L (fun z => Op14Fine z.1 ∧ ReadS w z.2 z.1.set.ds) 8 Try.underlying22 (by kernel_rfl) (by decide) (fun x => rfl) ?_ hv h
  intro n cs y hl ht
  match cs, hl with
  | [c0, c1, c2, c3, c4, c5, c6, c7], _ => exact open_op14_cells ht
end Go.Proofs.Ytdlaepfnogmebaa
