/- How a thing to be done with what is not there, and a slice of them, that come in read. No condition. -/
import Derived.Test.YtedcjkfiljjpiaaShapesG
namespace Go.Proofs.Ytedcjkfiljjpiaa
open Go.ChangeShapes Go.WideShapes Go.ChangeAt Go.RowKit

/-- What is to be done. -/
structure Op15 where
  d : Int
  now : Int
  key : Qn
  nx : Bool
  soa : St
def op15V (o : Op15) (vd : Value) : Value := .agg #[.int .i64 o.d, .int .i64 o.now, .string o.key.n, .int .i64 o.key.t, .int .i64 o.key.c, .bool o.nx, .string o.soa.key.n, .int .i64 o.soa.key.t, .int .i64 o.soa.key.c, vd, .int .i64 o.soa.ttl]
def op15L (z : Op15 × Value) : List Value := [.int .i64 z.1.d, .int .i64 z.1.now, .string z.1.key.n, .int .i64 z.1.key.t, .int .i64 z.1.key.c, .bool z.1.nx, .string z.1.soa.key.n, .int .i64 z.1.soa.key.t, .int .i64 z.1.soa.key.c, z.2, .int .i64 z.1.soa.ttl]
def I64N (x : Int) : Prop := -9223372036854775808 ≤ x ∧ x ≤ 9223372036854775807
def Op15Fine (o : Op15) : Prop := QnFine o.key ∧ StFine o.soa ∧ StIn o.soa ∧ I64N o.d ∧ I64N o.now
def Op15At (w : World) (v : Value) (o : Op15) : Prop := ∃ vd, v = op15V o vd ∧ ReadS w vd o.soa.ds

theorem arr11 {α : Type} {cs : Array α} (h : cs.size = 11) : ∃ c0 c1 c2 c3 c4 c5 c6 c7 c8 c9 c10, cs = #[c0, c1, c2, c3, c4, c5, c6, c7, c8, c9, c10] := by
  obtain ⟨l⟩ := cs
  match l, h with
  | [a, b, c, d, e, f, g, i, j, k, l], _ => exact ⟨a, b, c, d, e, f, g, i, j, k, l, rfl⟩
set_option maxRecDepth 100000 in
theorem open_stN_cells {H : Type} {enc : TypeId × Value → H} {w : World} {base : Nat} {spare : TypeId → Bool} {held : Bool} {fuel : Nat} {c0 c1 c2 c3 c4 : Value} {x : DataW H × List MemPlace}
    (hf : DataW.trod enc Try.prog w base spare held fuel 35 [c0, c1, c2, c3, c4] = some x) :
    ∃ (s : St) (vd : Value), c0 = .string s.key.n ∧ c1 = .int .i64 s.key.t ∧ c2 = .int .i64 s.key.c ∧ c3 = vd ∧ c4 = .int .i64 s.ttl ∧ ReadS w vd s.ds ∧ StFine s ∧ StIn s := by
  obtain ⟨xs, m, _, hx, _, hl, hi⟩ := DataW.trod_struct Try.underlying35 hf
  have hc1 : Try.prog.cellsOf 32 = 3 := by kernel_rfl
  have hc2 : Try.prog.cellsOf 3 = 1 := by kernel_rfl
  have hc3 : Try.prog.cellsOf 33 = 1 := by kernel_rfl
  have h0 := hi 0 _ rfl
  have h1 := hi 1 _ rfl
  have h2 := hi 2 _ rfl
  have hl' : xs.length = 3 := hl
  rw [List.getElem?_eq_getElem (by omega)] at h0 h1 h2
  simp [hc1, hc2, hc3] at h0 h1 h2
  obtain ⟨q, eq, fq⟩ := open_qn_cells h0
  obtain ⟨ds, r3, f3, l3, _⟩ := open_row_cell (fun x : List UInt8 => [sv x]) (fun x => x.length ≤ maxLen) 1 Try.underlying33 (by kernel_rfl) (by decide) (fun x => rfl) (fun n cs y hl ht => by
    match cs, hl with
    | [c0], _ =>
      obtain ⟨s, e0, _, w0⟩ := DataW.trod_string Try.underlying9 ht
      simp at e0
      subst e0
      exact ⟨s.data.toList, by simp [sv], by simpa using w0⟩) h1
  obtain ⟨t, e2, _, w2⟩ := DataW.trod_int Try.underlying3 h2
  simp at e2
  subst e2
  simp only [qnL, List.cons.injEq, and_true] at eq
  obtain ⟨rfl, rfl, rfl⟩ := eq
  exact ⟨⟨q, ds, t⟩, c3, rfl, rfl, rfl, rfl, rfl, readS_row r3, ⟨fq.1, l3, f3⟩, fq, bounds_i64 w2⟩
set_option maxRecDepth 100000 in
theorem open_op15_cells {H : Type} {enc : TypeId × Value → H} {w : World} {base : Nat} {spare : TypeId → Bool} {held : Bool} {fuel : Nat} {c0 c1 c2 c3 c4 c5 c6 c7 c8 c9 c10 : Value} {x : DataW H × List MemPlace}
    (hf : DataW.trod enc Try.prog w base spare held fuel 37 [c0, c1, c2, c3, c4, c5, c6, c7, c8, c9, c10] = some x) :
    ∃ z : Op15 × Value, [c0, c1, c2, c3, c4, c5, c6, c7, c8, c9, c10] = op15L z ∧ Op15Fine z.1 ∧ ReadS w z.2 z.1.soa.ds := by
  obtain ⟨xs, m, _, _, _, hl, hi⟩ := DataW.trod_struct Try.underlying37 hf
  have hc1 : Try.prog.cellsOf 35 = 5 := by kernel_rfl
  have hc2 : Try.prog.cellsOf 3 = 1 := by kernel_rfl
  have hc3 : Try.prog.cellsOf 32 = 3 := by kernel_rfl
  have hc4 : Try.prog.cellsOf 4 = 1 := by kernel_rfl
  have h0 := hi 0 _ rfl
  have h1 := hi 1 _ rfl
  have h2 := hi 2 _ rfl
  have h3 := hi 3 _ rfl
  have h4 := hi 4 _ rfl
  have hl' : xs.length = 5 := hl
  rw [List.getElem?_eq_getElem (by omega)] at h0 h1 h2 h3 h4
  simp [hc1, hc2, hc3, hc4] at h0 h1 h2 h3 h4
  obtain ⟨a, e0, _, w0⟩ := DataW.trod_int Try.underlying3 h0
  obtain ⟨b, e1, _, w1⟩ := DataW.trod_int Try.underlying3 h1
  obtain ⟨q, e2, fq⟩ := open_qn_cells h2
  obtain ⟨nx, e3, _⟩ := DataW.trod_bool Try.underlying4 h3
  obtain ⟨s, vd, rfl, rfl, rfl, rfl, rfl, hr, hfs, hin⟩ := open_stN_cells h4
  simp at e0 e1 e3
  subst e0 e1 e3
  simp only [qnL, List.cons.injEq, and_true] at e2
  obtain ⟨rfl, rfl, rfl⟩ := e2
  exact ⟨(⟨a, b, q, nx, s⟩, c9), rfl, ⟨fq, hfs, hin, bounds_i64 w0, bounds_i64 w1⟩, hr⟩
set_option maxRecDepth 100000 in
theorem open_op15 {H : Type} {enc : TypeId × Value → H} {w : World} {base : Nat} {spare : TypeId → Bool} {held : Bool} {r : Reach} {b0 : Nat} {v : Value} {d : DataW H} {p : List MemPlace}
    (hv : Value.okWide Try.prog w r b0 37 v) (h : DataW.Trod enc Try.prog w base spare held 37 v d p) :
    ∃ o : Op15, Op15At w v o ∧ Op15Fine o := by
  obtain ⟨cs, rfl, hsz⟩ := okWide_struct Try.underlying37 hv
  have hC : Try.prog.cellsOf 37 = 11 := by kernel_rfl
  obtain ⟨c0, c1, c2, c3, c4, c5, c6, c7, c8, c9, c10, rfl⟩ := arr11 (hsz.trans hC)
  obtain ⟨fuel, hf⟩ := h
  obtain ⟨z, e, h1, h2⟩ := open_op15_cells hf
  refine ⟨z.1, ⟨z.2, ?_, h2⟩, h1⟩
  simp only [op15L, List.cons.injEq, and_true] at e
  obtain ⟨rfl, rfl, rfl, rfl, rfl, rfl, rfl, rfl, rfl, rfl, rfl⟩ := e
  rfl
/-- What the walk is told of a slice of things to be done. -/
def Ops15At (w : World) (v : Value) (zs : List (Op15 × Value)) : Prop := ReadRow w v 11 (zs.map op15L) ∧ (∀ z ∈ zs, Op15Fine z.1 ∧ ReadS w z.2 z.1.soa.ds) ∧ zs.length ≤ maxLen
set_option maxRecDepth 100000 in
theorem open_ops15 {H : Type} {enc : TypeId × Value → H} {w : World} {base : Nat} {spare : TypeId → Bool} {held : Bool} {r : Reach} {b0 : Nat} {v : Value} {d : DataW H} {p : List MemPlace}
    (hv : Value.okWide Try.prog w r b0 22 v) (h : DataW.Trod enc Try.prog w base spare held 22 v d p) : ∃ zs, Ops15At w v zs := by
  refine open_row op15L (fun z => Op15Fine z.1 ∧ ReadS w z.2 z.1.soa.ds) 11 Try.underlying22 (by kernel_rfl) (by decide) (fun x => rfl) ?_ hv h
  intro n cs y hl ht
  match cs, hl with
  | [c0, c1, c2, c3, c4, c5, c6, c7, c8, c9, c10], _ => exact open_op15_cells ht
set_option maxRecDepth 100000 in
/-- A question. -/
theorem open_qn15 {H : Type} {enc : TypeId × Value → H} {w : World} {base : Nat} {spare : TypeId → Bool} {held : Bool} {r : Reach} {b0 : Nat} {v : Value} {d : DataW H} {p : List MemPlace}
    (hv : Value.okWide Try.prog w r b0 32 v) (h : DataW.Trod enc Try.prog w base spare held 32 v d p) :
    ∃ q : Qn, v = .agg #[.string q.n, .int .i64 q.t, .int .i64 q.c] ∧ QnFine q := by
  obtain ⟨cs, rfl, hsz⟩ := okWide_struct Try.underlying32 hv
  have hC : Try.prog.cellsOf 32 = 3 := by kernel_rfl
  have h3 : cs.size = 3 := hsz.trans hC
  obtain ⟨l⟩ := cs
  match l, h3 with
  | [c0, c1, c2], _ =>
    obtain ⟨fuel, hf⟩ := h
    obtain ⟨q, e, h1⟩ := open_qn_cells hf
    simp only [qnL, List.cons.injEq, and_true] at e
    obtain ⟨rfl, rfl, rfl⟩ := e
    exact ⟨q, rfl, h1⟩
end Go.Proofs.Ytedcjkfiljjpiaa
