/- How a message that comes in reads. No condition. How a set that comes in reads. No condition. -/
import Derived.Test.YtdlaepfnogmebaaShapes
import Derived.Test.YtdlaepfnogmebaaShapesR
import Derived.Test.YtdlaepfnogmebaaMsgW6
import Derived.SizedLaws
import Derived.Test.YtdlaepfnogmebaaGrp3
namespace Go.Proofs.Ytdlaepfnogmebaa
open Go.ChangeShapes Go.WideShapes Go.ChangeAt Go.RowKit

theorem open_row_cell {α : Type} {H : Type} {enc : TypeId × Value → H} {P : Program} {w : World} {base : Nat} {spare : TypeId → Bool} {held : Bool} {t e : TypeId} {v : Value} {fuel : Nat} {z : DataW H × List MemPlace}
    (f : α → List Value) (Q : α → Prop) (c : Nat) (hs : P.underlying t = some (.slice e)) (hc : P.cellsOf e = c) (hpos : 0 < c) (hfl : ∀ x, (f x).length = c)
    (hel : ∀ n cs y, cs.length = c → DataW.trod enc P w base spare held n e cs = some y → ∃ x, cs = f x ∧ Q x)
    (hf : DataW.trod enc P w base spare held fuel t [v] = some z) : ∃ xs : List α, ReadRow w v c (xs.map f) ∧ (∀ x ∈ xs, Q x) ∧ xs.length ≤ maxLen ∧ (xs = [] ∨ ∃ es sp, z.1 = .slice es sp ∧ es.length = xs.length) := by
  rcases DataW.trod_slice hs hf with ⟨hcs, _⟩ | ⟨x, n, cap, elems, rest, m, _, hcs, hz, hb, hl, hm, hlen, hell, _, _⟩
  · simp at hcs
    subst hcs
    exact ⟨[], ReadRow.nil, by simp, by simp, .inl rfl⟩
  · simp at hcs
    subst hcs
    have each : ∀ i : Fin n, ∃ y : α, w.cells? base (x.add (i.val * c)) c = some (f y) ∧ Q y := by
      intro i
      have := hell i.val i.isLt
      rw [List.getElem?_eq_getElem (by omega), Option.bind_eq_some_iff, hc] at this
      obtain ⟨cs, h1, h2⟩ := this
      obtain ⟨y, rfl, hq⟩ := hel _ _ _ (cells_get h1).1 h2
      exact ⟨y, h1, hq⟩
    refine ⟨List.ofFn fun i => Classical.choose (each i), ?_, ?_, by simp; omega, .inr ⟨_, _, by rw [hz], by simp [hlen]⟩⟩
    · refine ⟨some x, cap, by simp, by simpa using hl, fun hp => ?_⟩
      have hn : 0 < n := by simpa using hp
      have h0 := (cells_get (Classical.choose_spec (each ⟨0, hn⟩)).1).2 0 hpos
      have hlen0 := hfl (Classical.choose (each ⟨0, hn⟩))
      rw [List.getElem?_eq_getElem (by omega)] at h0
      obtain ⟨xb, xo, xs⟩ := x
      have hsp : xs = none := by
        cases xs with
        | none => rfl
        | some s =>
          simp only [World.cell?, Addr.add] at h0
          split at h0
          · simp at h0
          · cases h0
      subst hsp
      have hlt := World.block_lt_of_cell? w _ h0
      refine ⟨xb, xo, rfl, by rw [add_none, add_none] at hlt; exact hlt, fun i hi j hj => ?_⟩
      have hi' : i < n := by simpa using hi
      have := (cells_get (Classical.choose_spec (each ⟨i, hi'⟩)).1).2 j hj
      simp only [List.getElem_map, List.getElem_ofFn]
      rw [← this]
      rw [add_none, add_none]
    · intro y hy
      rw [List.mem_ofFn] at hy
      obtain ⟨i, rfl⟩ := hy
      exact (Classical.choose_spec (each i)).2

def QnFine (q : Qn) : Prop := q.n.size ≤ maxLen ∧ (-9223372036854775808 ≤ q.t ∧ q.t ≤ 9223372036854775807) ∧ (-9223372036854775808 ≤ q.c ∧ q.c ≤ 9223372036854775807)
theorem open_qn_cells {H : Type} {enc : TypeId × Value → H} {w : World} {base : Nat} {spare : TypeId → Bool} {held : Bool} {fuel : Nat} {c0 c1 c2 : Value} {x : DataW H × List MemPlace}
    (hf : DataW.trod enc Try.prog w base spare held fuel 32 [c0, c1, c2] = some x) : ∃ q : Qn, [c0, c1, c2] = qnL q ∧ QnFine q := by
  obtain ⟨xs, m, _, _, _, hl, hi⟩ := DataW.trod_struct Try.underlying32 hf
  have hc1 : Try.prog.cellsOf 9 = 1 := by kernel_rfl
  have hc2 : Try.prog.cellsOf 3 = 1 := by kernel_rfl
  have h0 := hi 0 _ rfl
  have h1 := hi 1 _ rfl
  have h2 := hi 2 _ rfl
  have hl' : xs.length = 3 := hl
  rw [List.getElem?_eq_getElem (by omega)] at h0 h1 h2
  simp [hc1, hc2] at h0 h1 h2
  obtain ⟨n, e0, _, w0⟩ := DataW.trod_string Try.underlying9 h0
  obtain ⟨t, e1, _, w1⟩ := DataW.trod_int Try.underlying3 h1
  obtain ⟨c, e2, _, w2⟩ := DataW.trod_int Try.underlying3 h2
  simp at e0 e1 e2
  subst e0 e1 e2
  exact ⟨⟨n, t, c⟩, rfl, w0, bounds_i64 w1, bounds_i64 w2⟩
theorem open_rr_cells {H : Type} {enc : TypeId × Value → H} {w : World} {base : Nat} {spare : TypeId → Bool} {held : Bool} (n : Nat) (cs : List Value) (y : DataW H × List MemPlace) (hl : cs.length = 5)
    (ht : DataW.trod enc Try.prog w base spare held n 161 cs = some y) : ∃ r : Rec, cs = recL8 r ∧ RecFine r := by
  match cs, hl with
  | [c0, c1, c2, c3, c4], _ =>
    obtain ⟨r, h1, h2⟩ := open_rec_cells ht
    refine ⟨r, ?_, h2⟩
    simp only [recV, Value.agg.injEq] at h1
    have := congrArg Array.toList h1
    simpa [recL8] using this
theorem sized_at {H : Type} {P : Program} {ts : List TypeId} {ds : List (DataW H)} (h : (DataW.weightsEach P ts ds).all (· ≤ reachBytes) = true) {j : Nat} {t : TypeId} {d : DataW H} (ht : ts[j]? = some t) (hd : ds[j]? = some d) : (d.weights P t).all (· ≤ reachBytes) = true :=
  List.all_eq_true.2 fun n hn => List.all_eq_true.1 h n (DataW.weights_mem_each ht hd n hn)
/-- All that a message which comes in keeps to. -/
def MsIn (m : Ms) : Prop := (-9223372036854775808 ≤ m.id ∧ m.id ≤ 9223372036854775807) ∧ (-9223372036854775808 ≤ m.bits ∧ m.bits ≤ 9223372036854775807) ∧ (∀ q ∈ m.qs, QnFine q) ∧ (∀ r ∈ m.an, RecFine r) ∧ (∀ r ∈ m.ns, RecFine r) ∧ (∀ r ∈ m.ar, RecFine r)
theorem arr6 {α : Type} {cs : Array α} (h : cs.size = 6) : ∃ c0 c1 c2 c3 c4 c5, cs = #[c0, c1, c2, c3, c4, c5] := by
  obtain ⟨l⟩ := cs
  match l, h with
  | [a, b, c, d, e, f], _ => exact ⟨a, b, c, d, e, f, rfl⟩
end Go.Proofs.Ytdlaepfnogmebaa

namespace Go.Proofs.Ytdlaepfnogmebaa
open Go.ChangeShapes Go.WideShapes Go.ChangeAt Go.RowKit

theorem readS_row {w : World} {v : Value} {ls : List (List UInt8)} (h : ReadRow w v 1 (ls.map fun x => [sv x])) : ReadS w v ls := by
  obtain ⟨a, cap, rfl, hle, hp⟩ := h
  rw [List.length_map] at hle ⊢
  refine ⟨a, cap, rfl, hle, fun i hi => ?_⟩
  obtain ⟨b, off, rfl, _, hc⟩ := hp (by rw [List.length_map]; omega)
  refine ⟨_, rfl, ?_⟩
  have h1 := hc i (by rw [List.length_map]; exact hi) 0 (by decide)
  rw [add_none]
  rw [List.getElem_map] at h1
  simpa using h1
/-- All that a set which comes in keeps to. -/
def StIn (s : St) : Prop := QnFine s.key ∧ (-9223372036854775808 ≤ s.ttl ∧ s.ttl ≤ 9223372036854775807)
set_option maxRecDepth 100000 in
theorem open_st {H : Type} {enc : TypeId × Value → H} {w : World} {base : Nat} {spare : TypeId → Bool} {held : Bool} {r : Reach} {b0 : Nat} {v : Value} {d : DataW H} {p : List MemPlace}
    (hv : Value.okWide Try.prog w r b0 35 v) (h : DataW.Trod enc Try.prog w base spare held 35 v d p) :
    ∃ s : St, StAt w v s ∧ StFine s ∧ StIn s := by
  obtain ⟨cs, rfl, hsz⟩ := okWide_struct Try.underlying35 hv
  have hC : Try.prog.cellsOf 35 = 5 := by kernel_rfl
  obtain ⟨c0, c1, c2, c3, c4, rfl⟩ := arr5 (hsz.trans hC)
  obtain ⟨fuel, hf⟩ := h
  obtain ⟨xs, m, _, hx, _, hl, hi⟩ := DataW.trod_struct Try.underlying35 hf
  have hc1 : Try.prog.cellsOf 32 = 3 := by kernel_rfl
  have hc2 : Try.prog.cellsOf 3 = 1 := by kernel_rfl
  have hc3 : Try.prog.cellsOf 33 = 1 := by kernel_rfl
  have h0 := hi 0 _ rfl
  have h1 := hi 1 _ rfl
  have h2 := hi 2 _ rfl
  have hl' : xs.length = 3 := hl
  rw [List.getElem?_eq_getElem (by omega)] at h0 h1 h2
  simp [hc1, hc2, hc3, Value.cells] at h0 h1 h2
  obtain ⟨q, eq, fq⟩ := open_qn_cells h0
  obtain ⟨ds, r3, f3, l3, _⟩ := open_row_cell (fun x : List UInt8 => [sv x]) (fun x => x.length ≤ maxLen) 1 Try.underlying33 (by kernel_rfl) (by decide) (fun x => rfl) (fun n cs y hl ht => by
    match cs, hl with
    | [c0], _ =>
      obtain ⟨s, e0, _, w0⟩ := DataW.trod_string Try.underlying9 ht
      simp at e0
      subst e0
      exact ⟨s.data.toList, by simp [sv], by simpa using w0⟩) h1
  obtain ⟨t, e2, _, w2⟩ := DataW.trod_int Try.underlying3 h2
  simp at e2
  subst e2
  simp only [qnL, List.cons.injEq, and_true] at eq
  obtain ⟨rfl, rfl, rfl⟩ := eq
  exact ⟨⟨q, ds, t⟩, ⟨c3, rfl, readS_row r3⟩, ⟨fq.1, l3, f3⟩, fq, bounds_i64 w2⟩
end Go.Proofs.Ytdlaepfnogmebaa
